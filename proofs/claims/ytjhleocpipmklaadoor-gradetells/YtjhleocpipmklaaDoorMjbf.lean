import Derived.Test.YtjhleocpipmklaaDoorMjbe
namespace Go.Proofs.YtjhleocpipmklaaDoor
set_option linter.unusedSimpArgs false
set_option linter.unusedVariables false
open Go.ChangeShapes Go.WideShapes Go.ChangeAt Go.RowKit Go.Pin Go.Pat Go.Deep
theorem TwP.tokAt {p : Pt} {t : Nat} {nm : ByteArray} {g0 g1 : Nat} {B : List Nat} {gl cl gt L ct : Nat} {w : World} (h : TwP p t nm g0 g1 B gl cl (.slice (some ⟨gt, 0, none⟩) L ct) w) {i : Nat} (hi : i < p.ln.length) : w.cell? ⟨gt, i, none⟩ = some (whv (B.getD i 0) (p.ln.getD i (0, [])).2) := by
  obtain ⟨a, c, e, h1⟩ := h.toks
  obtain ⟨g, e1, hc⟩ := h1 i hi
  injection e with e2
  rw [e1] at e2
  injection e2 with e2
  injection e2 with e2
  rw [e2]
  exact hc
theorem lfw_oth (p : Pt) (y : Int) (B : List Nat) : lfw (oth p y).ln B = lfw p.ln B := zip_oth _ p y B (fun i b => by simp only [tkv, oth_f, oth_t])
theorem oth_small {p : Pt} (hs : p.b0.length ≤ 200 ∧ p.b1.length ≤ 200 ∧ p.ln.length ≤ 200 ∧ ∀ i, i < p.ln.length → (p.ln.getD i (0, [])).2.length ≤ 200) (y : Int) : (oth p y).b0.length ≤ 200 ∧ (oth p y).b1.length ≤ 200 ∧ (oth p y).ln.length ≤ 200 ∧ ∀ i, i < (oth p y).ln.length → ((oth p y).ln.getD i (0, [])).2.length ≤ 200 :=
  ⟨hs.1, hs.2.1, by rw [oth_len]; exact hs.2.2.1, fun i hi => by rw [oth_t]; exact hs.2.2.2 i (by rw [oth_len] at hi; exact hi)⟩
set_option maxRecDepth 100000 in
set_option maxHeartbeats 16000000 in
theorem tells_walk {ea : Int → Addr} (v : Value) (p : Pt) (more : Int) (v' : Value) (o : Pt) (W : World) (hE : Errs ea W) (hR : RdP W v p) (hm1 : -9223372036854775808 ≤ more) (hm2 : more < 9223372036854775808) (hO : RdP W v' o) :
    Calls Tryd.prog 3 #[v, .int .i64 more, v'] W fun e w' => e = .returned (.bool true) ∧ Below W.heap.size W w' := by
  have hrd := hR
  have hro := hO
  have HKN : Hid (∀ W, Errs ea W → _) := known_any plevels_any (find_kk pfindA) (find_nx1 pfindA)
  obtain ⟨v0, v1, vl, rfl, h0, h1, hl⟩ := hR
  obtain ⟨a0, p0, rfl, -, -, -⟩ := id h0
  obtain ⟨a1, p1, rfl, -, -, -⟩ := id h1
  obtain ⟨al, cl, rfl, -, -, -⟩ := id hl
  obtain ⟨w0, w1, wl, rfl, i0, i1, il⟩ := hO
  obtain ⟨b0, k0, rfl, -, -, -⟩ := id i0
  obtain ⟨b1, k1, rfl, -, -, -⟩ := id i1
  obtain ⟨bl, kl, rfl, -, -, -⟩ := id il
  have hrn : RdP W (.agg #[.string p.nm, .slice b0 o.b0.length k0, .slice b1 o.b1.length k1, .slice bl o.ln.length kl]) ⟨p.nm, o.b0, o.b1, o.ln⟩ := ⟨_, _, _, rfl, i0, i1, il⟩
  have hLA := fun Y (hY : Below W.heap.size W Y) => hl.below hY
  have hN0 := fun Y (hY : Below W.heap.size W Y) => h0.below hY
  have hN1 := fun Y (hY : Below W.heap.size W Y) => h1.below hY
  have hst : T2 W.heap.size W #[.string p.nm, .slice a0 p.b0.length p0, .slice a1 p.b1.length p1, .slice al p.ln.length cl] #[.string o.nm, .slice b0 o.b0.length k0, .slice b1 o.b1.length k1, .slice bl o.ln.length kl] ((W.alloc (.cells #[.string p.nm, .slice a0 p.b0.length p0, .slice a1 p.b1.length p1, .slice al p.ln.length cl] 26)).alloc (.cells #[.string o.nm, .slice b0 o.b0.length k0, .slice b1 o.b1.length k1, .slice bl o.ln.length kl] 26)) := by
    refine ⟨((Below.refl _ _).alloc (Nat.le_refl _) _).alloc (by simp) _, by simp [size_alloc], ?_, ?_⟩
    · rw [heap_alloc_any, if_neg (by simp [size_alloc])]; exact heap_alloc_new _ _
    · have := heap_alloc_new (W.alloc (.cells #[.string p.nm, .slice a0 p.b0.length p0, .slice a1 p.b1.length p1, .slice al p.ln.length cl] 26)) (.cells #[.string o.nm, .slice b0 o.b0.length k0, .slice b1 o.b1.length k1, .slice bl o.ln.length kl] 26)
      rw [size_alloc] at this
      exact this
  obtain ⟨q, hq⟩ : ∃ q, W.heap.size = q := ⟨_, rfl⟩
  obtain ⟨nm, hnm⟩ : ∃ nm, p.nm = nm := ⟨_, rfl⟩
  obtain ⟨n0, hn0⟩ : ∃ n0, p.b0.length = n0 := ⟨_, rfl⟩
  obtain ⟨n1, hn1⟩ : ∃ n1, p.b1.length = n1 := ⟨_, rfl⟩
  obtain ⟨L, hLn⟩ : ∃ L, p.ln.length = L := ⟨_, rfl⟩
  obtain ⟨nm2, hnm2⟩ : ∃ nm2, o.nm = nm2 := ⟨_, rfl⟩
  obtain ⟨m0, hm0⟩ : ∃ m0, o.b0.length = m0 := ⟨_, rfl⟩
  obtain ⟨m1, hm1'⟩ : ∃ m1, o.b1.length = m1 := ⟨_, rfl⟩
  obtain ⟨M, hMn⟩ : ∃ M, o.ln.length = M := ⟨_, rfl⟩
  simp only [hq, hnm, hn0, hn1, hLn, hnm2, hm0, hm1', hMn] at hst hrd hro hrn hLA hN0 hN1 ⊢
  have hsz : (W.alloc (.cells #[.string nm, .slice a0 n0 p0, .slice a1 n1 p1, .slice al L cl] 26)).heap.size = q + 1 := by rw [size_alloc, hq]
  obtain ⟨W1, hW1⟩ : ∃ W1, (W.alloc (.cells #[.string nm, .slice a0 n0 p0, .slice a1 n1 p1, .slice al L cl] 26)).alloc (.cells #[.string nm2, .slice b0 m0 k0, .slice b1 m1 k1, .slice bl M kl] 26) = W1 := ⟨_, rfl⟩
  rw [hW1] at hst
  have HP : Hid (T2 q W #[.string nm, .slice a0 n0 p0, .slice a1 n1 p1, .slice al L cl] #[.string nm2, .slice b0 m0 k0, .slice b1 m1 k1, .slice bl M kl] W1) := hst
  have HRD : Hid (∀ Y, Below q W Y → RdP Y (.agg #[.string nm, .slice a0 n0 p0, .slice a1 n1 p1, .slice al L cl]) p) := fun Y hY => hrd.below (by rw [hq]; exact hY)
  have HRO : Hid (∀ Y, Below q W Y → RdP Y (.agg #[.string nm2, .slice b0 m0 k0, .slice b1 m1 k1, .slice bl M kl]) o) := fun Y hY => hro.below (by rw [hq]; exact hY)
  have HRN : Hid (∀ Y, Below q W Y → RdP Y (.agg #[.string nm, .slice b0 m0 k0, .slice b1 m1 k1, .slice bl M kl]) ⟨nm, o.b0, o.b1, o.ln⟩) := fun Y hY => hrn.below (by rw [hq]; exact hY)
  have HER : Hid (∀ Y, Below q W Y → Errs ea Y) := fun Y hY => hE.below (by rw [hq]; exact hY)
  have HLA : Hid (∀ Y, Below q W Y → RdL Y (.slice al L cl) p.ln) := hLA
  have HN0 : Hid (∀ Y, Below q W Y → RdN Y (.slice a0 n0 p0) p.b0) := hN0
  have HN1 : Hid (∀ Y, Below q W Y → RdN Y (.slice a1 n1 p1) p.b1) := hN1
  have HZ : Hid (p.ln.length = L ∧ p.b0.length = n0 ∧ p.b1.length = n1 ∧ p.nm = nm ∧ o.ln.length = M ∧ W.heap.size = q) := ⟨hLn, hn0, hn1, hnm, hMn, hq⟩
  have HMO : Hid (-9223372036854775808 ≤ more ∧ more < 9223372036854775808) := ⟨hm1, hm2⟩
  have CL1 := long_any _ p W1 (HRD.out W1 hst.old)
  have c0 : W1.cell? ⟨q, 0, none⟩ = some (.string nm) := hst.c1 0
  have c1 : W1.cell? ⟨q, 1, none⟩ = some (.slice a0 n0 p0) := hst.c1 1
  have c2 : W1.cell? ⟨q, 2, none⟩ = some (.slice a1 n1 p1) := hst.c1 2
  have c3 : W1.cell? ⟨q, 3, none⟩ = some (.slice al L cl) := hst.c1 3
  clear hst hrd hro hrn hE h0 h1 hl i0 i1 il hLA hN0 hN1 hm1 hm2 hn0 hn1 hLn hnm hnm2 hm0 hm1' hMn
  rcases e1 : lng p with _ | _
  case true =>
    rw [e1] at CL1
    clear e1
    go_enter Tryd.func3, Tryd.ntmps3
    go_wp2_with (go_at_call 9; refine Calls.mono CL1 ?_; clear CL1; rintro e w2 ⟨rfl, hb⟩; have HB2 : Hid (T2 q W #[.string nm, .slice a0 n0 p0, .slice a1 n1 p1, .slice al L cl] #[.string nm2, .slice b0 m0 k0, .slice b1 m1 k1, .slice bl M kl] w2) := HP.out.below hb; clear hb)
    go_ret
    exact ⟨rfl, HB2.out.old⟩
  rw [e1] at CL1
  rcases e2 : lng o with _ | _
  case true =>
    clear e1
    go_enter Tryd.func3, Tryd.ntmps3
    go_wp2_with (first
      | (go_at_call 9; refine Calls.mono CL1 ?_; clear CL1; rintro e w2 ⟨rfl, hb⟩; have HB2 : Hid (T2 q W #[.string nm, .slice a0 n0 p0, .slice a1 n1 p1, .slice al L cl] #[.string nm2, .slice b0 m0 k0, .slice b1 m1 k1, .slice bl M kl] w2) := HP.out.below hb; have CL2 := long_any _ o w2 (HRO.out w2 HB2.out.old); rw [e2] at CL2; clear hb c0 c1 c2 c3; have d0 : w2.cell? ⟨q + 1, 0, none⟩ = some (.string nm2) := HB2.out.c2 0; have d1 : w2.cell? ⟨q + 1, 1, none⟩ = some (.slice b0 m0 k0) := HB2.out.c2 1; have d2 : w2.cell? ⟨q + 1, 2, none⟩ = some (.slice b1 m1 k1) := HB2.out.c2 2; have d3 : w2.cell? ⟨q + 1, 3, none⟩ = some (.slice bl M kl) := HB2.out.c2 3)
      | (go_at_call 9; refine Calls.mono CL2 ?_; clear CL2; rintro e w3 ⟨rfl, hb⟩; have HB3 : Hid (T2 q W #[.string nm, .slice a0 n0 p0, .slice a1 n1 p1, .slice al L cl] #[.string nm2, .slice b0 m0 k0, .slice b1 m1 k1, .slice bl M kl] w3) := HB2.out.below hb; clear hb))
    go_ret
    exact ⟨rfl, HB3.out.old⟩
  have hsm := lng_small e1
  have hso := lng_small e2
  have HSM : Hid (p.b0.length ≤ 200 ∧ p.b1.length ≤ 200 ∧ p.ln.length ≤ 200 ∧ ∀ i, i < p.ln.length → (p.ln.getD i (0, [])).2.length ≤ 200) := hsm
  have HLM : Hid (L ≤ 200 ∧ M ≤ 200) := ⟨by have := hsm.2.2.1; have := HZ.out.1; omega, by have := hso.2.2.1; have := HZ.out.2.2.2.2.1; omega⟩
  have HLG : Hid (lng p = false) := e1
  have HLO : Hid (lng o = false) := e2
  clear hsm hso e1 e2
  -- the answers
  have small : ∀ (p : Pt) (more : Int), (lvL p more).length ≤ 140737488355328 := fun p more => by
    by_cases h : lvE p more = 0
    · have := (lv_small h).1; omega
    · unfold lvL; rw [if_neg h]; simp
  have HPL : Hid (∀ (Y : World) (u : Value) (p' : Pt) (mo : Int), RdP Y u p' → Below q W Y → -9223372036854775808 ≤ mo → mo < 9223372036854775808 → Calls Tryd.prog 11 #[u, .int .i64 mo] Y fun e w' => ∃ x, e = .returned (.tuple #[x, EV ea (lvE p' mo)]) ∧ w'.ownsRow q 48 3 x (lvL p' mo).length (gcs (lvL p' mo)) ∧ Below Y.heap.size Y w') := fun Y u p' mo hr hY h1 h2 =>
    (plevels_any u p' Y mo (HER.out Y hY) hr h1 h2).mono fun e w' ⟨x, he, ho, hb⟩ => ⟨x, he, own_base ho (by have := hY.size; have := HZ.out.2.2.2.2.2; omega), hb⟩
  have HPR : Hid (∀ (Y : World) (u : Value) (p' : Pt) (mo : Int), RdP Y u p' → Below q W Y → -9223372036854775808 ≤ mo → mo < 9223372036854775808 → Calls Tryd.prog 12 #[u, .int .i64 mo] Y fun e w' => ∃ x, e = .returned (.tuple #[x, .int .i64 (lvE p' mo)]) ∧ w'.ownsRow q 48 3 x (lvL p' mo).length (gcs (lvL p' mo)) ∧ Below Y.heap.size Y w') := fun Y u p' mo hr hY h1 h2 =>
    (levels_any u p' Y hr mo h1 h2).mono fun e w' ⟨x, he, ho, hb⟩ => ⟨x, he, own_base ho (by have := hY.size; have := HZ.out.2.2.2.2.2; omega), hb⟩
  have HCD : Hid (∀ (Y : World) (p' : Pt) (mo : Int), Below q W Y → Calls Tryd.prog 13 #[EV ea (lvE p' mo)] Y fun e w' => e = .returned (.int .i64 (lvE p' mo)) ∧ w' = Y) := fun Y p' mo hY => code_any (HER.out Y hY) _ (lvE_in p' mo)
  have HSL : Hid (∀ (p : Pt) (more : Int), (lvL p more).length ≤ 140737488355328) := small
  clear small
  go_enter Tryd.func3, Tryd.ntmps3
  go_upto_region 4 with (first
    | (go_at_call 9; refine Calls.mono CL1 ?_; clear CL1; rintro e w2 ⟨rfl, hb⟩; have HB2 : Hid (T2 q W #[.string nm, .slice a0 n0 p0, .slice a1 n1 p1, .slice al L cl] #[.string nm2, .slice b0 m0 k0, .slice b1 m1 k1, .slice bl M kl] w2) := HP.out.below hb; have CL2 := long_any _ o w2 (HRO.out w2 HB2.out.old); rw [HLO.out] at CL2; clear hb c0 c1 c2 c3; have d0 : w2.cell? ⟨q + 1, 0, none⟩ = some (.string nm2) := HB2.out.c2 0; have d1 : w2.cell? ⟨q + 1, 1, none⟩ = some (.slice b0 m0 k0) := HB2.out.c2 1; have d2 : w2.cell? ⟨q + 1, 2, none⟩ = some (.slice b1 m1 k1) := HB2.out.c2 2; have d3 : w2.cell? ⟨q + 1, 3, none⟩ = some (.slice bl M kl) := HB2.out.c2 3)
    | (go_at_call 9; refine Calls.mono CL2 ?_; clear CL2; rintro e w3 ⟨rfl, hb⟩; have HB3 : Hid (T2 q W #[.string nm, .slice a0 n0 p0, .slice a1 n1 p1, .slice al L cl] #[.string nm2, .slice b0 m0 k0, .slice b1 m1 k1, .slice bl M kl] w3) := HB2.out.below hb; clear hb d0 d1 d2 d3; have c0 : w3.cell? ⟨q, 0, none⟩ = some (.string nm) := HB3.out.c1 0; have c1 : w3.cell? ⟨q, 1, none⟩ = some (.slice a0 n0 p0) := HB3.out.c1 1; have c2 : w3.cell? ⟨q, 2, none⟩ = some (.slice a1 n1 p1) := HB3.out.c1 2; have c3 : w3.cell? ⟨q, 3, none⟩ = some (.slice al L cl) := HB3.out.c1 3; have CT := twin_any _ p w3 (HRD.out w3 HB3.out.old) HLG.out)
    | (go_at_call 10; go_loud (refine Calls.mono CT ?_; clear CT; rintro e w4 ⟨t, g0, g1, B, gl, tl, TV, rfl, ht, htw, htg, hb⟩; have HTG : Hid (TwG p t g0 g1 B) := htg; have HB4 : Hid (T2 q W #[.string nm, .slice a0 n0 p0, .slice a1 n1 p1, .slice al L cl] #[.string nm2, .slice b0 m0 k0, .slice b1 m1 k1, .slice bl M kl] w4) := HB3.out.below hb; (obtain ⟨at_, ct, rfl, -⟩ := htw.toks); rw [HZ.out.1, HZ.out.2.2.2.1] at htw; have HT4 : Hid (TwP p t nm g0 g1 B gl tl (.slice at_ L ct) w4) := htw; have HQT : Hid (q + 1 < t) := Nat.lt_of_lt_of_le HB3.out.lt ht; clear hb ht htw htg c0 c1 c2 c3)))
  have hrt : ∀ Y, TwP p t nm g0 g1 B gl tl (.slice at_ L ct) Y → RdP Y (.agg #[.string nm, tkv g0 p.b0, tkv g1 p.b1, .slice (some ⟨gl, 0, none⟩) L tl]) p := fun Y hY => by
    have := hY.rdp HSM.out HZ.out.2.2.2.1
    rw [HZ.out.1] at this
    exact this
  have hbx : ∀ Y, TwP p t nm g0 g1 B gl tl (.slice at_ L ct) Y → Y.cell? ⟨t, 0, none⟩ = some (.string nm) ∧ Y.cell? ⟨t, 1, none⟩ = some (.slice (some ⟨g0, 0, none⟩) n0 (n0 + 9)) ∧ Y.cell? ⟨t, 2, none⟩ = some (.slice (some ⟨g1, 0, none⟩) n1 (n1 + 9)) ∧ Y.cell? ⟨t, 3, none⟩ = some (.slice (some ⟨gl, 0, none⟩) L tl) := fun Y hY => by
    have h := hY.1
    simp only [tkv, whv, HZ.out.1, HZ.out.2.1, HZ.out.2.2.1] at h
    exact ⟨by rw [cell_of_row _ _ _ _ _ _ h]; rfl, by rw [cell_of_row _ _ _ _ _ _ h]; rfl, by rw [cell_of_row _ _ _ _ _ _ h]; rfl, by rw [cell_of_row _ _ _ _ _ _ h]; rfl⟩
  simp only [tkv, HZ.out.2.1, HZ.out.2.2.1] at hrt
  have HRT : Hid (∀ Y, TwP p t nm g0 g1 B gl tl (.slice at_ L ct) Y → RdP Y (.agg #[.string nm, .slice (some ⟨g0, 0, none⟩) n0 (n0 + 9), .slice (some ⟨g1, 0, none⟩) n1 (n1 + 9), .slice (some ⟨gl, 0, none⟩) L tl]) p) := hrt
  have HBX : Hid (∀ Y, TwP p t nm g0 g1 B gl tl (.slice at_ L ct) Y → _) := hbx
  obtain ⟨x0, x1, x2, x3⟩ := hbx w4 HT4.out
  have CL := HPL.out w4 _ p more (hrt w4 HT4.out) HB4.out.old HMO.out.1 HMO.out.2
  obtain ⟨c, hc⟩ : ∃ c, lvE p more = c := ⟨_, rfl⟩
  obtain ⟨gs, hgs⟩ : ∃ gs, lvL p more = gs := ⟨_, rfl⟩
  have HCG : Hid (lvE p more = c ∧ lvL p more = gs ∧ gs.length ≤ 140737488355328) := ⟨hc, hgs, by rw [← hgs]; exact HSL.out p more⟩
  rw [hc, hgs] at CL
  have hcc : (c == c) = true := by simp
  clear hrt hbx hc hgs
  go_upto_region 8 with (first
    | (go_at_call 11; refine Calls.mono CL ?_; clear CL; rintro e w5 ⟨u1, rfl, ho, hb⟩; have HB5 : Hid (T2 q W #[.string nm, .slice a0 n0 p0, .slice a1 n1 p1, .slice al L cl] #[.string nm2, .slice b0 m0 k0, .slice b1 m1 k1, .slice bl M kl] w5) := HB4.out.below hb; have HT5 : Hid (TwP p t nm g0 g1 B gl tl (.slice at_ L ct) w5) := HT4.out.below hb; have HO5 : Hid (w5.ownsRow q 48 3 u1 gs.length (gcs gs)) := ho; clear ho hb x0 x1 x2 x3; have c0 : w5.cell? ⟨q, 0, none⟩ = some (.string nm) := HB5.out.c1 0; have c1 : w5.cell? ⟨q, 1, none⟩ = some (.slice a0 n0 p0) := HB5.out.c1 1; have c2 : w5.cell? ⟨q, 2, none⟩ = some (.slice a1 n1 p1) := HB5.out.c1 2; have c3 : w5.cell? ⟨q, 3, none⟩ = some (.slice al L cl) := HB5.out.c1 3; have CR := HPR.out w5 _ p more (HRD.out w5 HB5.out.old) HB5.out.old HMO.out.1 HMO.out.2; rw [HCG.out.1, HCG.out.2.1] at CR)
    | (go_at_call 12; go_loud (refine Calls.mono CR ?_; clear CR; rintro e w6 ⟨u2, rfl, ho, hb⟩; have HB6 : Hid (T2 q W #[.string nm, .slice a0 n0 p0, .slice a1 n1 p1, .slice al L cl] #[.string nm2, .slice b0 m0 k0, .slice b1 m1 k1, .slice bl M kl] w6) := HB5.out.below hb; have HT6 : Hid (TwP p t nm g0 g1 B gl tl (.slice at_ L ct) w6) := HT5.out.below hb; have CG := grades_same (own_rd (owns_below hb HO5.out) HCG.out.2.2) (own_rd ho HCG.out.2.2); have CC := HCD.out w6 p more HB6.out.old; rw [HCG.out.1] at CC; clear ho hb c0 c1 c2 c3))
    | (go_at_call 13; refine Calls.mono CC ?_; clear CC; rintro e w7 ⟨rfl, hw7⟩; have hw8 := hw7.symm; subst hw8)
    | (go_at_call 14; refine Calls.mono CG ?_; clear CG; rintro e w7 ⟨rfl, hb⟩; have HB7 : Hid (T2 q W #[.string nm, .slice a0 n0 p0, .slice a1 n1 p1, .slice al L cl] #[.string nm2, .slice b0 m0 k0, .slice b1 m1 k1, .slice bl M kl] w7) := HB6.out.below hb; have HT7 : Hid (TwP p t nm g0 g1 B gl tl (.slice at_ L ct) w7) := HT6.out.below hb; clear hb; have c0 : w7.cell? ⟨q, 0, none⟩ = some (.string nm) := HB7.out.c1 0; have c1 : w7.cell? ⟨q, 1, none⟩ = some (.slice a0 n0 p0) := HB7.out.c1 1; have c2 : w7.cell? ⟨q, 2, none⟩ = some (.slice a1 n1 p1) := HB7.out.c1 2; have c3 : w7.cell? ⟨q, 3, none⟩ = some (.slice al L cl) := HB7.out.c1 3; have CU := untouched_true HT7.out (HRD.out w7 HB7.out.old) HLG.out)
    | (go_at_call 15; refine Calls.mono CU ?_; clear CU; rintro e w8 ⟨rfl, hb⟩; have HB8 : Hid (T2 q W #[.string nm, .slice a0 n0 p0, .slice a1 n1 p1, .slice al L cl] #[.string nm2, .slice b0 m0 k0, .slice b1 m1 k1, .slice bl M kl] w8) := HB7.out.below hb; have HT8 : Hid (TwP p t nm g0 g1 B gl tl (.slice at_ L ct) w8) := HT7.out.below hb; clear hb c0 c1 c2 c3))
  have c0 : w8.cell? ⟨q, 0, none⟩ = some (.string nm) := HB8.out.c1 0
  have d0 : w8.cell? ⟨q + 1, 0, none⟩ = some (.string nm2) := HB8.out.c2 0
  have f0 := HB8.out.fz 0
  have HB9 : Hid (T2 q W #[.string nm, .slice a0 n0 p0, .slice a1 n1 p1, .slice al L cl] #[.string nm, .slice b0 m0 k0, .slice b1 m1 k1, .slice bl M kl] (w8.setCell ⟨q + 1, 0, none⟩ (.string nm))) := HB8.out.set 0 (.string nm)
  have HT9 : Hid (TwP p t nm g0 g1 B gl tl (.slice at_ L ct) (w8.setCell ⟨q + 1, 0, none⟩ (.string nm))) := HT8.out.typed (T := 26) (by decide) HB8.out.r2 (fun k hne => heap_setCell_other _ _ _ _ hne)
  go_upto_region 9 with (fail)
  obtain ⟨w9, hw9⟩ : ∃ w9, w8.setCell ⟨q + 1, 0, none⟩ (.string nm) = w9 := ⟨_, rfl⟩
  rw [hw9] at HB9 HT9
  simp only [hw9]
  clear hw9 c0 d0 f0 HB8 HT8
  obtain ⟨rest, hrest⟩ : ∃ rest : Int, (if 0 ≤ more ∧ more ≤ 64 then more + (L : Int) - (M : Int) else more) = rest := ⟨_, rfl⟩
  have HRS : Hid (-9223372036854775808 ≤ rest ∧ rest < 9223372036854775808) := by
    have := HMO.out
    have := HLM.out
    rw [← hrest]
    show _ ∧ _
    split <;> omega
  obtain ⟨bb, hbb⟩ : ∃ bb, decide (0 ≤ more ∧ more ≤ 64) = bb := ⟨_, rfl⟩
  go_upto_region 10 with (fail)
  go_cut [66] (fun v66 wx => v66 = .bool bb ∧ wx = w9)
  case first =>
    by_cases g1' : 0 ≤ more
    · by_cases g2' : more ≤ 64
      · have HH : Hid (bb = true) := by rw [← hbb]; exact decide_eq_true ⟨g1', g2'⟩
        clear hrest hbb
        go_wp2
        go_meet
        exact ⟨by rw [HH.out], rfl⟩
      · have HH : Hid (bb = false) := by rw [← hbb]; exact decide_eq_false (fun h => g2' h.2)
        clear hrest hbb
        go_wp2
        go_meet
        exact ⟨by rw [HH.out], rfl⟩
    · have HH : Hid (bb = false) := by rw [← hbb]; exact decide_eq_false (fun h => g1' h.1)
      clear hrest hbb
      go_wp2
      go_meet
      exact ⟨by rw [HH.out], rfl⟩
  obtain ⟨rfl, hwc⟩ := hcut
  have hwc' := hwc.symm
  subst hwc'
  go_upto_if 66 with (fail)
  go_cut [12] (fun v12 wx => v12 = .int .i64 rest ∧ wx = w9)
  case first =>
    have c3 : w9.cell? ⟨q, 3, none⟩ = some (.slice al L cl) := HB9.out.c1 3
    have d3 : w9.cell? ⟨q + 1, 3, none⟩ = some (.slice bl M kl) := HB9.out.c2 3
    cases bb
    · have hm := of_decide_eq_false hbb
      have HH : Hid (rest = more) := by rw [← hrest, if_neg hm]; rfl
      clear hrest hbb hm
      go_wp2
      go_meet
      exact ⟨by rw [HH.out], rfl⟩
    · have hm := of_decide_eq_true hbb
      have e1 : wrap64 (more + (L : Int)) = more + (L : Int) := IntWalk.wrap64_in _ ⟨by omega, by have := HLM.out; omega⟩
      have e2 : wrap64 (more + (L : Int) - (M : Int)) = more + (L : Int) - (M : Int) := IntWalk.wrap64_in _ ⟨by have := HLM.out; omega, by have := HLM.out; omega⟩
      have HH : Hid (rest = more + (L : Int) - (M : Int)) := by rw [← hrest, if_pos hm]; rfl
      clear hrest hm hbb
      go_wp2
      go_meet
      exact ⟨by rw [HH.out], rfl⟩
  obtain ⟨rfl, hwc⟩ := hcut
  have hwc' := hwc.symm
  subst hwc'
  clear hrest hbb
  have d0 : w9.cell? ⟨q + 1, 0, none⟩ = some (.string nm) := HB9.out.c2 0
  have d1 : w9.cell? ⟨q + 1, 1, none⟩ = some (.slice b0 m0 k0) := HB9.out.c2 1
  have d2 : w9.cell? ⟨q + 1, 2, none⟩ = some (.slice b1 m1 k1) := HB9.out.c2 2
  have d3 : w9.cell? ⟨q + 1, 3, none⟩ = some (.slice bl M kl) := HB9.out.c2 3
  obtain ⟨c9, hc9⟩ : ∃ c9, lvE ⟨nm, o.b0, o.b1, o.ln⟩ rest = c9 := ⟨_, rfl⟩
  obtain ⟨gs9, hgs9⟩ : ∃ gs9, lvL ⟨nm, o.b0, o.b1, o.ln⟩ rest = gs9 := ⟨_, rfl⟩
  have HCH : Hid (lvE ⟨nm, o.b0, o.b1, o.ln⟩ rest = c9 ∧ lvL ⟨nm, o.b0, o.b1, o.ln⟩ rest = gs9 ∧ gs9.length ≤ 140737488355328) := ⟨hc9, hgs9, by rw [← hgs9]; exact HSL.out _ _⟩
  have CL := HPL.out w9 _ _ rest (HRN.out w9 HB9.out.old) HB9.out.old HRS.out.1 HRS.out.2
  rw [hc9, hgs9] at CL
  have hcc9 : (c9 == c9) = true := by simp
  have hcn9 : (c9 != c9) = false := by simp
  clear hc9 hgs9
  go_upto_region 16 with (first
    | (go_at_call 11; refine Calls.mono CL ?_; clear CL; rintro e wa ⟨u3, rfl, ho, hb⟩; have HBa : Hid (T2 q W #[.string nm, .slice a0 n0 p0, .slice a1 n1 p1, .slice al L cl] #[.string nm, .slice b0 m0 k0, .slice b1 m1 k1, .slice bl M kl] wa) := HB9.out.below hb; have HTa : Hid (TwP p t nm g0 g1 B gl tl (.slice at_ L ct) wa) := HT9.out.below hb; have HOa : Hid (wa.ownsRow q 48 3 u3 gs9.length (gcs gs9)) := ho; clear ho hb d0 d1 d2 d3; have d0 : wa.cell? ⟨q + 1, 0, none⟩ = some (.string nm) := HBa.out.c2 0; have d1 : wa.cell? ⟨q + 1, 1, none⟩ = some (.slice b0 m0 k0) := HBa.out.c2 1; have d2 : wa.cell? ⟨q + 1, 2, none⟩ = some (.slice b1 m1 k1) := HBa.out.c2 2; have d3 : wa.cell? ⟨q + 1, 3, none⟩ = some (.slice bl M kl) := HBa.out.c2 3; have CR := HPR.out wa _ _ rest (HRN.out wa HBa.out.old) HBa.out.old HRS.out.1 HRS.out.2; rw [HCH.out.1, HCH.out.2.1] at CR)
    | (go_at_call 12; refine Calls.mono CR ?_; clear CR; rintro e wb ⟨u4, rfl, ho, hb⟩; have HBb : Hid (T2 q W #[.string nm, .slice a0 n0 p0, .slice a1 n1 p1, .slice al L cl] #[.string nm, .slice b0 m0 k0, .slice b1 m1 k1, .slice bl M kl] wb) := HBa.out.below hb; have HTb : Hid (TwP p t nm g0 g1 B gl tl (.slice at_ L ct) wb) := HTa.out.below hb; have HO3 : Hid (wb.ownsRow q 48 3 u3 gs9.length (gcs gs9)) := owns_below hb HOa.out; have HO4 : Hid (wb.ownsRow q 48 3 u4 gs9.length (gcs gs9)) := ho; have CG := grades_same (own_rd HO3.out HCH.out.2.2) (own_rd ho HCH.out.2.2); have CC := HCD.out wb ⟨nm, o.b0, o.b1, o.ln⟩ rest HBb.out.old; rw [HCH.out.1] at CC; clear ho hb d0 d1 d2 d3)
    | (go_at_call 13; refine Calls.mono CC ?_; clear CC; rintro e w7 ⟨rfl, hw7⟩; have hw8 := hw7.symm; subst hw8)
    | (go_at_call 14; refine Calls.mono CG ?_; clear CG; rintro e wc ⟨rfl, hb⟩; have HBc : Hid (T2 q W #[.string nm, .slice a0 n0 p0, .slice a1 n1 p1, .slice al L cl] #[.string nm, .slice b0 m0 k0, .slice b1 m1 k1, .slice bl M kl] wc) := HBb.out.below hb; have HTc : Hid (TwP p t nm g0 g1 B gl tl (.slice at_ L ct) wc) := HTb.out.below hb; have HOc : Hid (wc.ownsRow q 48 3 u3 gs9.length (gcs gs9) ∧ wc.ownsRow q 48 3 u4 gs9.length (gcs gs9)) := ⟨owns_below hb HO3.out, owns_below hb HO4.out⟩; clear hb))
  have CK := HKN.out wc (HER.out wc HBc.out.old)
  have c3 : wc.cell? ⟨q, 3, none⟩ = some (.slice al L cl) := HBc.out.c1 3
  by_cases hL0 : L = 0
  · have e0 : ((L : Int) == 0) = true := by simp [hL0]
    clear hL0
    go_wp2_with (go_at_call 16; refine Calls.mono CK ?_; clear CK; rintro e wz ⟨rfl, hb⟩; have HPz : Hid (Below q W wz) := HBc.out.old.trans (hb.mono (by have := HBc.out.lt; omega)); clear hb)
    go_ret
    exact ⟨rfl, HPz.out⟩
  have e0 : ((L : Int) == 0) = false := by (have : ¬ (L : Int) = 0 := by omega); simpa using this
  have bL : (0 : Int) < (L : Int) := by omega
  obtain ⟨ba, oa, a2, n2, k2, hal, hcl, hrn2, hn2⟩ := (HLA.out wc HBc.out.old).at (j := 0) (by omega)
  have x1 := (hcl wc (Below.refl _ _)).2
  subst hal
  simp only [Nat.zero_mul, Nat.add_zero] at x1
  have HN2 : Hid (n2 = (p.ln.getD 0 (0, [])).2.length ∧ 0 < L) := ⟨hn2, by omega⟩
  clear hcl hrn2 hn2 hL0
  by_cases hn : n2 < 2
  · have b2 : (n2 : Int) < 2 := by omega
    have t2 : decide ((n2 : Int) < 2) = true := decide_eq_true b2
    clear hn
    go_wp2_with (go_at_call 16; refine Calls.mono CK ?_; clear CK; rintro e wz ⟨rfl, hb⟩; have HPz : Hid (Below q W wz) := HBc.out.old.trans (hb.mono (by have := HBc.out.lt; omega)); clear hb)
    go_ret
    exact ⟨rfl, HPz.out⟩
  have b2 : ¬ (n2 : Int) < 2 := by omega
  have t2 : decide ((n2 : Int) < 2) = false := decide_eq_false b2
  have HN3 : Hid (2 ≤ n2) := by show 2 ≤ n2; omega
  clear hn CK
  go_upto_region 18 with (fail)
  clear x1 c3 e0 t2 b2
  have h0 : 0 < p.ln.length := by rw [HZ.out.1]; exact HN2.out.2
  have h1 : 1 < (p.ln.getD 0 (0, [])).2.length := by rw [← HN2.out.1]; exact HN3.out
  obtain ⟨at2, ct2, eT, hT⟩ := HTc.out.toks
  injection eT with eT1 eT2 eT3
  subst eT1 eT3
  obtain ⟨gt, rfl, y0⟩ := hT 0 h0
  have x7 := HTc.out.c.2.2.2
  have hr0 := HTc.out.rw h0
  have z1 := hr0.cell (i := 1) (by rw [rm_len]; omega)
  rw [rm_lo h1] at z1
  have f1 := hr0.fz 1
  obtain ⟨B0, hB0⟩ : ∃ B0, B.getD 0 0 = B0 := ⟨_, rfl⟩
  obtain ⟨x, hx⟩ : ∃ x, (p.ln.getD 0 (0, [])).2.getD 1 0 = x := ⟨_, rfl⟩
  simp only [whv] at y0
  rw [← HN2.out.1] at y0
  rw [hB0] at y0 z1 f1
  rw [hx] at z1
  have HB0 : Hid (B.getD 0 0 = B0) := hB0
  have bn9 : (1 : Int) < (n2 : Int) + 9 := by have := HN3.out; omega
  clear hr0 hB0 hx eT2 hT
  obtain ⟨y, hy⟩ : ∃ y, wrap64 (3 + x.tmod 4) = y := ⟨_, rfl⟩
  have hbt : t < B0 := by
    rw [← HB0.out]
    have hB := HTc.out.2.2.2.1
    have hiB : 0 < B.length := by omega
    exact HTG.out (B.getD 0 0, (p.ln.getD 0 (0, [])).2) (List.mem_append_right _ (List.mem_of_getElem? (i := 0) (by simp [lmw, List.getD, h0, hiB, List.getElem?_zipWith])))
  have hTd := HTc.out.turn h0 h1 y
  rw [HB0.out] at hTd
  have hrB := HTc.out.rw h0
  rw [HB0.out] at hrB
  have hdr : ∀ w : World, Below w.heap.size w w.drew := fun w => drew_below (Below.refl _ _)
  have HTd : Hid (TwP (oth p y) t nm g0 g1 B gl tl (.slice (some ⟨gt, 0, none⟩) L ct) (wc.setCell ⟨B0, 1, none⟩ (.int .i64 y)).drew) := hTd.below (hdr _)
  have HBd : Hid (T2 q W #[.string nm, .slice a0 n0 p0, .slice a1 n1 p1, .slice (some ⟨ba, oa, none⟩) L cl] #[.string nm, .slice b0 m0 k0, .slice b1 m1 k1, .slice bl M kl] (wc.setCell ⟨B0, 1, none⟩ (.int .i64 y)).drew) := (HBc.out.other (by have := HQT.out; omega) 1 _).below (hdr _)
  have HOd : Hid ((wc.setCell ⟨B0, 1, none⟩ (.int .i64 y)).drew.ownsRow q 48 3 u3 gs9.length (gcs gs9) ∧ (wc.setCell ⟨B0, 1, none⟩ (.int .i64 y)).drew.ownsRow q 48 3 u4 gs9.length (gcs gs9)) := ⟨owns_below (hdr _) (own_set HOc.out.1 hrB (by decide) 1 _), owns_below (hdr _) (own_set HOc.out.2 hrB (by decide) 1 _)⟩
  clear hTd hrB hdr hbt h0 h1
  go_region
  rw [hy]
  obtain ⟨wd, hwd⟩ : ∃ wd, (wc.setCell ⟨B0, 1, none⟩ (.int .i64 y)).drew = wd := ⟨_, rfl⟩
  rw [hwd] at HTd HBd HOd ⊢
  clear hwd hy x7 y0 z1 f1 bn9 HBc HTc HOc
  have c0 : wd.cell? ⟨q, 0, none⟩ = some (.string nm) := HBd.out.c1 0
  have c1 : wd.cell? ⟨q, 1, none⟩ = some (.slice a0 n0 p0) := HBd.out.c1 1
  have c2 : wd.cell? ⟨q, 2, none⟩ = some (.slice a1 n1 p1) := HBd.out.c1 2
  have c3 : wd.cell? ⟨q, 3, none⟩ = some (.slice (some ⟨ba, oa, none⟩) L cl) := HBd.out.c1 3
  go_upto_region 22 with (fail)
  obtain ⟨r, hr⟩ : ∃ r, wd.heap.size = r := ⟨_, rfl⟩
  have hb2 : Below wd.heap.size wd (wd.alloc (.cells #[.string nm, .slice a0 n0 p0, .slice a1 n1 p1, .slice none 0 0] 26)) := (Below.refl _ _).alloc (Nat.le_refl _) _
  have hTN : TN q r W #[.string nm, .slice a0 n0 p0, .slice a1 n1 p1, .slice (some ⟨ba, oa, none⟩) L cl] #[.string nm, .slice b0 m0 k0, .slice b1 m1 k1, .slice bl M kl] (oth p y) t nm g0 g1 B gl tl (.slice (some ⟨gt, 0, none⟩) L ct) u3 u4 gs9 #[.string nm, .slice a0 n0 p0, .slice a1 n1 p1, .slice none 0 0] (.slice none 0 0) 0 [] (wd.alloc (.cells #[.string nm, .slice a0 n0 p0, .slice a1 n1 p1, .slice none 0 0] 26)) := ⟨HBd.out.below hb2, HTd.out.below hb2, owns_below hb2 HOd.out.1, owns_below hb2 HOd.out.2, by rw [← hr]; exact heap_alloc_new _ _, ⟨rfl, .inl ⟨rfl, rfl⟩⟩, ⟨by rw [← hr]; exact HBd.out.lt, by rw [← hr]; exact HTd.out.lt.2.1⟩⟩
  obtain ⟨we, hwe⟩ : ∃ we, wd.alloc (.cells #[.string nm, .slice a0 n0 p0, .slice a1 n1 p1, .slice none 0 0] 26) = we := ⟨_, rfl⟩
  rw [hwe] at hTN
  simp only [hwe, hr]
  have HTN : Hid (TN q r W #[.string nm, .slice a0 n0 p0, .slice a1 n1 p1, .slice (some ⟨ba, oa, none⟩) L cl] #[.string nm, .slice b0 m0 k0, .slice b1 m1 k1, .slice bl M kl] (oth p y) t nm g0 g1 B gl tl (.slice (some ⟨gt, 0, none⟩) L ct) u3 u4 gs9 #[.string nm, .slice a0 n0 p0, .slice a1 n1 p1, .slice none 0 0] (.slice none 0 0) 0 [] we) := hTN
  clear hTN hwe hr hb2 c0 c1 c2 c3 HBd HTd HOd
  go_loopw [15] (fun v15 wy => ∃ (i : Nat) (aN : Option Addr) (cN : Nat), i ≤ L ∧ v15 = .int .i64 i ∧ TN q r W #[.string nm, .slice a0 n0 p0, .slice a1 n1 p1, .slice (some ⟨ba, oa, none⟩) L cl] #[.string nm, .slice b0 m0 k0, .slice b1 m1 k1, .slice bl M kl] (oth p y) t nm g0 g1 B gl tl (.slice (some ⟨gt, 0, none⟩) L ct) u3 u4 gs9 #[.string nm, .slice a0 n0 p0, .slice a1 n1 p1, .slice aN i cN] (.slice aN i cN) i (lcw (lfw (p.ln.take i) B)) wy) (fun v _ => L - (intOf v).toNat)
  case atStart => exact ⟨0, none, 0, Nat.zero_le _, rfl, by simpa [lfw, lcw] using HTN.out⟩
  case round =>
    clear HTN
    obtain ⟨i, aN, cN, hi, rfl, hs⟩ := hrel
    have HSi : Hid (TN q r W #[.string nm, .slice a0 n0 p0, .slice a1 n1 p1, .slice (some ⟨ba, oa, none⟩) L cl] #[.string nm, .slice b0 m0 k0, .slice b1 m1 k1, .slice bl M kl] (oth p y) t nm g0 g1 B gl tl (.slice (some ⟨gt, 0, none⟩) L ct) u3 u4 gs9 #[.string nm, .slice a0 n0 p0, .slice a1 n1 p1, .slice aN i cN] (.slice aN i cN) i (lcw (lfw (p.ln.take i) B)) wr) := hs
    have c3 : wr.cell? ⟨q, 3, none⟩ = some (.slice (some ⟨ba, oa, none⟩) L cl) := hs.t2.c1 3
    by_cases hlt : i < L
    · have bI : (i : Int) < (L : Int) := by omega
      have bi0 : (0 : Int) ≤ (i : Int) := by omega
      obtain ⟨b', o', a3, n3, k3, hal, hcl, -, hn3⟩ := (HLA.out W (Below.refl _ _)).at hlt
      injection hal with hal
      injection hal with hal1 hal2
      subst hal1 hal2 hn3
      rw [HZ.out.2.2.2.2.2] at hcl
      obtain ⟨fr, hfr⟩ : ∃ fr, (p.ln.getD i (0, [])).1 = fr := ⟨_, rfl⟩
      obtain ⟨m, hm⟩ : ∃ m, (p.ln.getD i (0, [])).2.length = m := ⟨_, rfl⟩
      rw [hfr, hm] at hcl
      have hlp : i < p.ln.length := by rw [HZ.out.1]; exact hlt
      have hlo : i < (oth p y).ln.length := by rw [oth_len]; exact hlp
      have htk : ∀ Y, TwP (oth p y) t nm g0 g1 B gl tl (.slice (some ⟨gt, 0, none⟩) L ct) Y → Y.cell? ⟨gt, i, none⟩ = some (.slice (some ⟨B.getD i 0, 0, none⟩) (m + 9) (m + 9)) := fun Y hY => by
        have := hY.tokAt hlo
        simp only [whv, oth_t, hm] at this
        exact this
      have HCL : Hid (∀ Y, Below q W Y → Y.cell? ⟨ba, oa + i * 2, none⟩ = some (.int .i64 fr) ∧ Y.cell? ⟨ba, oa + i * 2 + 1, none⟩ = some (.slice a3 m k3)) := hcl
      obtain ⟨bi, hbi⟩ : ∃ bi, B.getD i 0 = bi := ⟨_, rfl⟩
      rw [hbi] at htk
      have HTK : Hid (∀ Y, TwP (oth p y) t nm g0 g1 B gl tl (.slice (some ⟨gt, 0, none⟩) L ct) Y → Y.cell? ⟨gt, i, none⟩ = some (.slice (some ⟨bi, 0, none⟩) (m + 9) (m + 9))) := htk
      have HFM : Hid ((p.ln.getD i (0, [])).1 = fr ∧ (p.ln.getD i (0, [])).2.length = m ∧ B.getD i 0 = bi ∧ i < L ∧ i < p.ln.length) := ⟨hfr, hm, hbi, hlt, hlp⟩
      have bm0 : (0 : Int) ≤ (m : Int) := by omega
      have bm9 : (m : Int) ≤ (m : Int) + 9 := by omega
      clear hs hi hcl hfr hm hlp hlo htk hbi hlt
      go_upto_region 24 with (fail)
      have HS5 : Hid (TN q r W #[.string nm, .slice a0 n0 p0, .slice a1 n1 p1, .slice (some ⟨ba, oa, none⟩) L cl] #[.string nm, .slice b0 m0 k0, .slice b1 m1 k1, .slice bl M kl] (oth p y) t nm g0 g1 B gl tl (.slice (some ⟨gt, 0, none⟩) L ct) u3 u4 gs9 #[.string nm, .slice a0 n0 p0, .slice a1 n1 p1, .slice aN i cN] (.slice aN i cN) i (lcw (lfw (p.ln.take i) B)) wr.drew) := HSi.out.below (drew_below (Below.refl _ _))
      have cR : ∀ Y, TN q r W #[.string nm, .slice a0 n0 p0, .slice a1 n1 p1, .slice (some ⟨ba, oa, none⟩) L cl] #[.string nm, .slice b0 m0 k0, .slice b1 m1 k1, .slice bl M kl] (oth p y) t nm g0 g1 B gl tl (.slice (some ⟨gt, 0, none⟩) L ct) u3 u4 gs9 #[.string nm, .slice a0 n0 p0, .slice a1 n1 p1, .slice aN i cN] (.slice aN i cN) i (lcw (lfw (p.ln.take i) B)) Y → Y.cell? ⟨r, 3, none⟩ = some (.slice aN i cN) := fun Y hY => by rw [cell_of_row _ _ _ _ _ _ hY.bx]; rfl
      have st0 : T2 q W #[.string nm, .slice a0 n0 p0, .slice a1 n1 p1, .slice (some ⟨ba, oa, none⟩) L cl] #[.string nm, .slice b0 m0 k0, .slice b1 m1 k1, .slice bl M kl] wr.drew ∧ TwP (oth p y) t nm g0 g1 B gl tl (.slice (some ⟨gt, 0, none⟩) L ct) wr.drew ∧ wr.drew.cell? ⟨r, 3, none⟩ = some (.slice aN i cN) := ⟨HS5.out.t2, HS5.out.tw, cR _ HS5.out⟩
      clear c3
      refine Go.Pin.wp_region_L (fun Y => T2 q W #[.string nm, .slice a0 n0 p0, .slice a1 n1 p1, .slice (some ⟨ba, oa, none⟩) L cl] #[.string nm, .slice b0 m0 k0, .slice b1 m1 k1, .slice bl M kl] Y ∧ TwP (oth p y) t nm g0 g1 B gl tl (.slice (some ⟨gt, 0, none⟩) L ct) Y ∧ Y.cell? ⟨r, 3, none⟩ = some (.slice aN i cN)) 27 28 (by rfl) (by kernel_rfl) st0 ?_
      intro Sq fq hNq hRq hSq
      have z3 : ∀ x, (fq x).cell? ⟨q, 3, none⟩ = some (.slice (some ⟨ba, oa, none⟩) L cl) := fun x => (hRq x).1.c1 3
      have z7 : ∀ x, (fq x).cell? ⟨t, 7, none⟩ = some (.slice (some ⟨gt, 0, none⟩) L ct) := fun x => (hRq x).2.1.c.2.2.2
      have zr := fun x => (hRq x).2.2
      have zg := fun x => HTK.out (fq x) (hRq x).2.1
      have zf := fun x => (HCL.out (fq x) (hRq x).1.old).1
      have zt := fun x => (HCL.out (fq x) (hRq x).1.old).2
      obtain ⟨wf, hwf⟩ : ∃ wf, wr.drew = wf := ⟨_, rfl⟩
      rw [hwf] at st0 HS5 ⊢
      clear hwf
      refine Go.Pin.takeL 0 (by simp only [List.getElem?_toArray, List.getElem?_cons_zero, List.getElem?_cons_succ]; exact rfl) (by simp only [List.getElem?_toArray, List.getElem?_cons_zero, List.getElem?_cons_succ]; exact rfl) (by kernel_rfl) (by kernel_rfl) (by kernel_rfl) (by kernel_rfl) (by rfl) (fun _ _ d _ _ h => by cases d <;> exact h) (st0) (hSq).out (by kernel_rfl) ?_
      intro Kq hKq
      go_big_quiet_op
      go_big_quiet_on
      refine Go.Pin.takeL 1 (by simp only [List.getElem?_toArray, List.getElem?_cons_zero, List.getElem?_cons_succ]; exact rfl) (by simp only [List.getElem?_toArray, List.getElem?_cons_zero, List.getElem?_cons_succ]; exact rfl) (by kernel_rfl) (by kernel_rfl) (by kernel_rfl) (by kernel_rfl) (by rfl) (fun _ _ d _ _ h => by cases d <;> exact h) (st0) (hSq).out (by kernel_rfl) ?_
      intro Kq hKq
      go_big_quiet_op
      go_big_quiet_on
      refine Go.Pin.takeL 2 (by simp only [List.getElem?_toArray, List.getElem?_cons_zero, List.getElem?_cons_succ]; exact rfl) (by simp only [List.getElem?_toArray, List.getElem?_cons_zero, List.getElem?_cons_succ]; exact rfl) (by kernel_rfl) (by kernel_rfl) (by kernel_rfl) (by kernel_rfl) (by rfl) (fun _ _ d _ _ h => by cases d <;> exact h) (st0) (hSq).out (by kernel_rfl) ?_
      intro Kq hKq
      go_big_quiet_op
      go_big_quiet_on
      refine Go.Pin.takeL 3 (by simp only [List.getElem?_toArray, List.getElem?_cons_zero, List.getElem?_cons_succ]; exact rfl) (by simp only [List.getElem?_toArray, List.getElem?_cons_zero, List.getElem?_cons_succ]; exact rfl) (by kernel_rfl) (by kernel_rfl) (by kernel_rfl) (by kernel_rfl) (by rfl) (fun _ _ d _ _ h => by cases d <;> exact h) (st0) (hSq).out (by kernel_rfl) ?_
      intro Kq hKq
      go_big_quiet_op
      go_big_quiet_on
      refine Go.Pin.takeL 4 (by simp only [List.getElem?_toArray, List.getElem?_cons_zero, List.getElem?_cons_succ]; exact rfl) (by simp only [List.getElem?_toArray, List.getElem?_cons_zero, List.getElem?_cons_succ]; exact rfl) (by kernel_rfl) (by kernel_rfl) (by kernel_rfl) (by kernel_rfl) (by rfl) (fun _ _ d _ _ h => by cases d <;> exact h) (st0) (hSq).out (by kernel_rfl) ?_
      intro Kq hKq
      go_big_quiet_op
      go_big_quiet_on
      refine Go.Pin.takeL 5 (by simp only [List.getElem?_toArray, List.getElem?_cons_zero, List.getElem?_cons_succ]; exact rfl) (by simp only [List.getElem?_toArray, List.getElem?_cons_zero, List.getElem?_cons_succ]; exact rfl) (by kernel_rfl) (by kernel_rfl) (by kernel_rfl) (by kernel_rfl) (by rfl) (fun _ _ d _ _ h => by cases d <;> exact h) (st0) (hSq).out (by kernel_rfl) ?_
      intro Kq hKq
      go_big_quiet_op
      go_big_quiet_on
      refine Go.Pin.takeL 6 (by simp only [List.getElem?_toArray, List.getElem?_cons_zero, List.getElem?_cons_succ]; exact rfl) (by simp only [List.getElem?_toArray, List.getElem?_cons_zero, List.getElem?_cons_succ]; exact rfl) (by kernel_rfl) (by kernel_rfl) (by kernel_rfl) (by kernel_rfl) (by rfl) (fun _ _ d _ _ h => by cases d <;> exact h) (st0) (hSq).out (by kernel_rfl) ?_
      intro Kq hKq
      go_big_quiet_op
      go_big_quiet_on
      refine Go.Pin.takeL 7 (by simp only [List.getElem?_toArray, List.getElem?_cons_zero, List.getElem?_cons_succ]; exact rfl) (by simp only [List.getElem?_toArray, List.getElem?_cons_zero, List.getElem?_cons_succ]; exact rfl) (by kernel_rfl) (by kernel_rfl) (by kernel_rfl) (by kernel_rfl) (by rfl) (fun _ _ d _ _ h => by cases d <;> exact h) (st0) (hSq).out (by kernel_rfl) ?_
      intro Kq hKq
      go_big_quiet_op
      go_big_quiet_on
      refine Go.Pin.takeL 8 (by simp only [List.getElem?_toArray, List.getElem?_cons_zero, List.getElem?_cons_succ]; exact rfl) (by simp only [List.getElem?_toArray, List.getElem?_cons_zero, List.getElem?_cons_succ]; exact rfl) (by kernel_rfl) (by kernel_rfl) (by kernel_rfl) (by kernel_rfl) (by rfl) (fun _ _ d _ _ h => by cases d <;> exact h) (st0) (hSq).out (by kernel_rfl) ?_
      intro Kq hKq
      go_big_quiet_op
      go_big_quiet_on
      refine takeLV 9 (.pointer (some ⟨t, 0, none⟩)) (by simp only [List.getElem?_toArray, List.getElem?_cons_zero, List.getElem?_cons_succ]; exact rfl) (by simp only [List.getElem?_toArray, List.getElem?_cons_zero, List.getElem?_cons_succ]; exact rfl) (by kernel_rfl) (by kernel_rfl) (by kernel_rfl) (by kernel_rfl) (fun _ _ d _ _ h => by cases d <;> exact h) (st0) (by kernel_rfl) (fun Yq hYq => by unfold execOp; go_simp) ?_
      simp only [Act.put, List.setIfInBounds_toArray, List.set_cons_zero, List.set_cons_succ]
      refine Go.Pin.takeL 10 (by simp only [List.getElem?_toArray, List.getElem?_cons_zero, List.getElem?_cons_succ]; exact rfl) (by simp only [List.getElem?_toArray, List.getElem?_cons_zero, List.getElem?_cons_succ]; exact rfl) (by kernel_rfl) (by kernel_rfl) (by kernel_rfl) (by kernel_rfl) (by rfl) (fun _ _ d _ _ h => by cases d <;> exact h) (st0) (hSq).out (by kernel_rfl) ?_
      intro Kq hKq
      go_big_quiet_op
      go_big_quiet_on
      refine Go.Pin.takeL 11 (by simp only [List.getElem?_toArray, List.getElem?_cons_zero, List.getElem?_cons_succ]; exact rfl) (by simp only [List.getElem?_toArray, List.getElem?_cons_zero, List.getElem?_cons_succ]; exact rfl) (by kernel_rfl) (by kernel_rfl) (by kernel_rfl) (by kernel_rfl) (by rfl) (fun _ _ d _ _ h => by cases d <;> exact h) (st0) (hSq).out (by kernel_rfl) ?_
      intro Kq hKq
      go_big_quiet_op
      go_big_quiet_on
      refine Go.Pin.takeL 12 (by simp only [List.getElem?_toArray, List.getElem?_cons_zero, List.getElem?_cons_succ]; exact rfl) (by simp only [List.getElem?_toArray, List.getElem?_cons_zero, List.getElem?_cons_succ]; exact rfl) (by kernel_rfl) (by kernel_rfl) (by kernel_rfl) (by kernel_rfl) (by rfl) (fun _ _ d _ _ h => by cases d <;> exact h) (st0) (hSq).out (by kernel_rfl) ?_
      intro Kq hKq
      go_big_quiet_op
      go_big_quiet_on
      refine Go.Pin.takeL 13 (by simp only [List.getElem?_toArray, List.getElem?_cons_zero, List.getElem?_cons_succ]; exact rfl) (by simp only [List.getElem?_toArray, List.getElem?_cons_zero, List.getElem?_cons_succ]; exact rfl) (by kernel_rfl) (by kernel_rfl) (by kernel_rfl) (by kernel_rfl) (by rfl) (fun _ _ d _ _ h => by cases d <;> exact h) (st0) (hSq).out (by kernel_rfl) ?_
      intro Kq hKq
      go_big_quiet_op
      go_big_quiet_on
      refine Go.Pin.takeL 14 (by simp only [List.getElem?_toArray, List.getElem?_cons_zero, List.getElem?_cons_succ]; exact rfl) (by simp only [List.getElem?_toArray, List.getElem?_cons_zero, List.getElem?_cons_succ]; exact rfl) (by kernel_rfl) (by kernel_rfl) (by kernel_rfl) (by kernel_rfl) (by rfl) (fun _ _ d _ _ h => by cases d <;> exact h) (st0) (hSq).out (by kernel_rfl) ?_
      intro Kq hKq
      go_big_quiet_op
      go_big_quiet_on
      refine Go.Pin.takeL 15 (by simp only [List.getElem?_toArray, List.getElem?_cons_zero, List.getElem?_cons_succ]; exact rfl) (by simp only [List.getElem?_toArray, List.getElem?_cons_zero, List.getElem?_cons_succ]; exact rfl) (by kernel_rfl) (by kernel_rfl) (by kernel_rfl) (by kernel_rfl) (by rfl) (fun _ _ d _ _ h => by cases d <;> exact h) (st0) (hSq).out (by kernel_rfl) ?_
      intro Kq hKq
      go_big_quiet_op
      go_big_quiet_on
      refine Go.Pin.takeL 16 (by simp only [List.getElem?_toArray, List.getElem?_cons_zero, List.getElem?_cons_succ]; exact rfl) (by simp only [List.getElem?_toArray, List.getElem?_cons_zero, List.getElem?_cons_succ]; exact rfl) (by kernel_rfl) (by kernel_rfl) (by kernel_rfl) (by kernel_rfl) (by rfl) (fun _ _ d _ _ h => by cases d <;> exact h) (st0) (hSq).out (by kernel_rfl) ?_
      intro Kq hKq
      go_big_quiet_op
      go_big_quiet_on
      refine Go.Pin.takeL 17 (by simp only [List.getElem?_toArray, List.getElem?_cons_zero, List.getElem?_cons_succ]; exact rfl) (by simp only [List.getElem?_toArray, List.getElem?_cons_zero, List.getElem?_cons_succ]; exact rfl) (by kernel_rfl) (by kernel_rfl) (by kernel_rfl) (by kernel_rfl) (by rfl) (fun _ _ d _ _ h => by cases d <;> exact h) (st0) (hSq).out (by kernel_rfl) ?_
      intro Kq hKq
      go_big_quiet_op
      go_big_quiet_on
      refine Go.Pin.takeL 18 (by simp only [List.getElem?_toArray, List.getElem?_cons_zero, List.getElem?_cons_succ]; exact rfl) (by simp only [List.getElem?_toArray, List.getElem?_cons_zero, List.getElem?_cons_succ]; exact rfl) (by kernel_rfl) (by kernel_rfl) (by kernel_rfl) (by kernel_rfl) (by rfl) (fun _ _ d _ _ h => by cases d <;> exact h) (st0) (hSq).out (by kernel_rfl) ?_
      intro Kq hKq
      go_big_quiet_op
      go_big_quiet_on
      refine Go.Pin.takeL 19 (by simp only [List.getElem?_toArray, List.getElem?_cons_zero, List.getElem?_cons_succ]; exact rfl) (by simp only [List.getElem?_toArray, List.getElem?_cons_zero, List.getElem?_cons_succ]; exact rfl) (by kernel_rfl) (by kernel_rfl) (by kernel_rfl) (by kernel_rfl) (by rfl) (fun _ _ d _ _ h => by cases d <;> exact h) (st0) (hSq).out (by kernel_rfl) ?_
      intro Kq hKq
      go_big_quiet_op
      go_big_quiet_on
      refine Go.Pin.takeL 20 (by simp only [List.getElem?_toArray, List.getElem?_cons_zero, List.getElem?_cons_succ]; exact rfl) (by simp only [List.getElem?_toArray, List.getElem?_cons_zero, List.getElem?_cons_succ]; exact rfl) (by kernel_rfl) (by kernel_rfl) (by kernel_rfl) (by kernel_rfl) (by rfl) (fun _ _ d _ _ h => by cases d <;> exact h) (st0) (hSq).out (by kernel_rfl) ?_
      intro Kq hKq
      go_big_quiet_op
      go_big_quiet_on
      refine Go.Pin.takeL 21 (by simp only [List.getElem?_toArray, List.getElem?_cons_zero, List.getElem?_cons_succ]; exact rfl) (by simp only [List.getElem?_toArray, List.getElem?_cons_zero, List.getElem?_cons_succ]; exact rfl) (by kernel_rfl) (by kernel_rfl) (by kernel_rfl) (by kernel_rfl) (by rfl) (fun _ _ d _ _ h => by cases d <;> exact h) (st0) (hSq).out (by kernel_rfl) ?_
      intro Kq hKq
      go_big_quiet_op
      go_big_quiet_on
      refine takeLV 22 (.slice (some ⟨bi, 0, none⟩) m (m + 9)) (by simp only [List.getElem?_toArray, List.getElem?_cons_zero, List.getElem?_cons_succ]; exact rfl) (by simp only [List.getElem?_toArray, List.getElem?_cons_zero, List.getElem?_cons_succ]; exact rfl) (by kernel_rfl) (by kernel_rfl) (by kernel_rfl) (by kernel_rfl) (fun _ _ d _ _ h => by cases d <;> exact h) (st0) (by kernel_rfl) (fun Yq hYq => by unfold execOp; go_simp) ?_
      simp only [Act.put, List.setIfInBounds_toArray, List.set_cons_zero, List.set_cons_succ]
      refine Go.Pin.takeL 23 (by simp only [List.getElem?_toArray, List.getElem?_cons_zero, List.getElem?_cons_succ]; exact rfl) (by simp only [List.getElem?_toArray, List.getElem?_cons_zero, List.getElem?_cons_succ]; exact rfl) (by kernel_rfl) (by kernel_rfl) (by kernel_rfl) (by kernel_rfl) (by rfl) (fun _ _ d _ _ h => by cases d <;> exact h) (st0) (hSq).out (by kernel_rfl) ?_
      intro Kq hKq
      go_big_quiet_op
      go_big_quiet_on
      refine Go.Pin.readyL 24 (by simp only [List.getElem?_toArray, List.getElem?_cons_zero, List.getElem?_cons_succ]; exact rfl) (by kernel_rfl) (by kernel_rfl) ?_
      intro K hK
      have hal := (Below.refl wf.heap.size wf).alloc (Nat.le_refl _) (.cells #[.int .i64 fr, .slice (some ⟨bi, 0, none⟩) m (m + 9)] 43)
      have hS6 := HS5.out.below hal
      have st6 : T2 q W #[.string nm, .slice a0 n0 p0, .slice a1 n1 p1, .slice (some ⟨ba, oa, none⟩) L cl] #[.string nm, .slice b0 m0 k0, .slice b1 m1 k1, .slice bl M kl] (wf.alloc (.cells #[.int .i64 fr, .slice (some ⟨bi, 0, none⟩) m (m + 9)] 43)) ∧ TwP (oth p y) t nm g0 g1 B gl tl (.slice (some ⟨gt, 0, none⟩) L ct) (wf.alloc (.cells #[.int .i64 fr, .slice (some ⟨bi, 0, none⟩) m (m + 9)] 43)) ∧ (wf.alloc (.cells #[.int .i64 fr, .slice (some ⟨bi, 0, none⟩) m (m + 9)] 43)).cell? ⟨r, 3, none⟩ = some (.slice aN i cN) := ⟨hS6.t2, hS6.tw, cR _ hS6⟩
      refine wpRun (d := some 162) (v := .slice (some ⟨wf.heap.size, 0, none⟩) 1 1) (w' := wf.alloc (.cells #[.int .i64 fr, .slice (some ⟨bi, 0, none⟩) m (m + 9)] 43)) rfl (by unfold execOp; go_simp) (hK _ _ (.inr st6) ?_)
      simp only [Act.put, List.setIfInBounds_toArray, List.set_cons_zero, List.set_cons_succ]
      clear hK K
      have happ := HS5.out.app (f := fr) (u := .slice (some ⟨bi, 0, none⟩) m (m + 9)) (by have := HFM.out; have := HLM.out; omega) rfl
      refine Go.Pin.readyL 25 (by simp only [List.getElem?_toArray, List.getElem?_cons_zero, List.getElem?_cons_succ]; exact rfl) (by kernel_rfl) (by kernel_rfl) ?_
      intro K hK
      refine wpApp (d := some 163) (v := .slice aN i cN) (u := .slice (some ⟨wf.heap.size, 0, none⟩) 1 1) rfl rfl rfl rfl happ ?_
      rintro v7 w7 hs7
      obtain ⟨aN', cN', rfl⟩ := own_slice' hs7.nv
      have e7 : w7.cell? ⟨r, 3, none⟩ = some (.slice aN i cN) := by rw [cell_of_row _ _ _ _ _ _ hs7.bx]; rfl
      have st7 : T2 q W #[.string nm, .slice a0 n0 p0, .slice a1 n1 p1, .slice (some ⟨ba, oa, none⟩) L cl] #[.string nm, .slice b0 m0 k0, .slice b1 m1 k1, .slice bl M kl] w7 ∧ TwP (oth p y) t nm g0 g1 B gl tl (.slice (some ⟨gt, 0, none⟩) L ct) w7 ∧ w7.cell? ⟨r, 3, none⟩ = some (.slice aN i cN) := ⟨hs7.t2, hs7.tw, e7⟩
      refine hK _ _ (.inr st7) ?_
      simp only [Act.put, List.setIfInBounds_toArray, List.set_cons_zero, List.set_cons_succ]
      clear hK K happ hal hS6 st6
      refine Go.Pin.takeL 26 (by simp only [List.getElem?_toArray, List.getElem?_cons_zero, List.getElem?_cons_succ]; exact rfl) (by simp only [List.getElem?_toArray, List.getElem?_cons_zero, List.getElem?_cons_succ]; exact rfl) (by kernel_rfl) (by kernel_rfl) (by kernel_rfl) (by kernel_rfl) (by rfl) (fun _ _ d _ _ h => by cases d <;> exact h) (st7) (hSq).out (by kernel_rfl) ?_
      intro Kq hKq
      go_big_quiet_op
      go_big_quiet_on
      refine Go.Pin.readyL 27 (by simp only [List.getElem?_toArray, List.getElem?_cons_zero, List.getElem?_cons_succ]; exact rfl) (by kernel_rfl) (by kernel_rfl) ?_
      intro K hK
      have f7 : w7.frozen? ⟨r, 3, none⟩ = false := frozen_of_row _ _ _ _ _ hs7.bx
      unfold Oper.wp execOp
      go_simp
      refine hK _ _ (.inl rfl) ?_
      clear hK K
      refine Go.Pin.wpL_done (by kernel_rfl) ?_
      have HS8 : Hid (TN q r W #[.string nm, .slice a0 n0 p0, .slice a1 n1 p1, .slice (some ⟨ba, oa, none⟩) L cl] #[.string nm, .slice b0 m0 k0, .slice b1 m1 k1, .slice bl M kl] (oth p y) t nm g0 g1 B gl tl (.slice (some ⟨gt, 0, none⟩) L ct) u3 u4 gs9 #[.string nm, .slice a0 n0 p0, .slice a1 n1 p1, .slice aN' (i + 1) cN'] (.slice aN' (i + 1) cN') (i + 1) ((lcw (lfw (p.ln.take i) B)) ++ [.int .i64 fr, .slice (some ⟨bi, 0, none⟩) m (m + 9)]) (w7.setCell ⟨r, 3, none⟩ (.slice aN' (i + 1) cN'))) := hs7.set 3 _
      obtain ⟨w8', hw8⟩ : ∃ w8', w7.setCell ⟨r, 3, none⟩ (.slice aN' (i + 1) cN') = w8' := ⟨_, rfl⟩
      rw [hw8] at HS8 ⊢
      clear hw8 hs7 st7 e7 f7 st0 hRq hSq hNq z3 z7 zr zg zf zt HS5 cR
      go_wp2
      refine ⟨⟨i + 1, aN', cN', HFM.out.2.2.2.1, congrArg (Value.int .i64) (wrapS HFM.out.2.2.2.1 (by have := HLM.out; omega)), ?_⟩, measS HFM.out.2.2.2.1 (by have := HLM.out; omega)⟩
      have h := HS8.out
      have hlB : B.length = p.ln.length := by have := h.tw.2.2.2.1; rw [oth_len] at this; exact this
      have e8 : lfw (p.ln.take (i + 1)) B = lfw (p.ln.take i) B ++ [(fr, .slice (some ⟨bi, 0, none⟩) m (m + 9))] := by
        have hiB : i < B.length := by have := HFM.out; omega
        have hip := HFM.out.2.2.2.2
        unfold lfw
        rw [takeW p.ln hip]
        have eB : B = B.take i ++ (B.getD i 0 :: B.drop (i + 1)) := by
          have : B.drop i = B.getD i 0 :: B.drop (i + 1) := by rw [List.drop_eq_getElem_cons hiB]; simp [List.getD, hiB]
          rw [← this, List.take_append_drop]
        have hz : ∀ X : List Ln, X.length = i → List.zipWith (fun (l : Ln) b => (l.1, tkv b l.2)) X B = List.zipWith (fun (l : Ln) b => (l.1, tkv b l.2)) X (B.take i) := fun X hX => by
          conv => lhs; rw [eB]
          rw [← List.append_nil X, List.zipWith_append (by rw [List.length_take]; omega)]
          simp
        have hlt' : (p.ln.take i).length = i := by rw [List.length_take]; omega
        rw [hz _ hlt']
        conv => lhs; rw [eB]
        rw [List.zipWith_append (by rw [List.length_take, List.length_take]; omega)]
        simp only [List.zipWith_cons_cons, List.zipWith_nil_left, tkv, HFM.out.1, HFM.out.2.1, HFM.out.2.2.1]
      rw [e8, lcw_snoc]
      exact h
    · obtain rfl : L = i := by omega
      have bI : ¬ (L : Int) < (L : Int) := by omega
      have htk : p.ln.take L = p.ln := List.take_of_length_le (by rw [HZ.out.1]; exact Nat.le_refl _)
      rw [htk] at HSi
      clear hs hi hlt htk
      go_upto_region 25 with (fail)
      have hrow : ∀ Y, TN q r W #[.string nm, .slice a0 n0 p0, .slice a1 n1 p1, .slice (some ⟨ba, oa, none⟩) L cl] #[.string nm, .slice b0 m0 k0, .slice b1 m1 k1, .slice bl M kl] (oth p y) t nm g0 g1 B gl tl (.slice (some ⟨gt, 0, none⟩) L ct) u3 u4 gs9 #[.string nm, .slice a0 n0 p0, .slice a1 n1 p1, .slice aN L cN] (.slice aN L cN) L (lcw (lfw p.ln B)) Y → Y.cell? ⟨t, 0, none⟩ = some (.string nm) ∧ Y.cell? ⟨t, 1, none⟩ = some (.slice (some ⟨g0, 0, none⟩) n0 (n0 + 9)) ∧ Y.cell? ⟨t, 2, none⟩ = some (.slice (some ⟨g1, 0, none⟩) n1 (n1 + 9)) ∧ Y.cell? ⟨t, 3, none⟩ = some (.slice (some ⟨gl, 0, none⟩) L tl) := fun Y hY => by
        have h := hY.tw.1
        have e0 : (oth p y).b0 = p.b0 := rfl
        have e1 : (oth p y).b1 = p.b1 := rfl
        simp only [tkv, whv, oth_len, e0, e1, HZ.out.1, HZ.out.2.1, HZ.out.2.2.1] at h
        exact ⟨by rw [cell_of_row _ _ _ _ _ _ h]; rfl, by rw [cell_of_row _ _ _ _ _ _ h]; rfl, by rw [cell_of_row _ _ _ _ _ _ h]; rfl, by rw [cell_of_row _ _ _ _ _ _ h]; rfl⟩
      have hrt : RdP wr (.agg #[.string nm, .slice (some ⟨g0, 0, none⟩) n0 (n0 + 9), .slice (some ⟨g1, 0, none⟩) n1 (n1 + 9), .slice (some ⟨gl, 0, none⟩) L tl]) (oth p y) := by
        have h := HSi.out.tw.rdp (oth_small HSM.out y) (show (oth p y).nm = nm from HZ.out.2.2.2.1)
        have e0 : (oth p y).b0 = p.b0 := rfl
        have e1 : (oth p y).b1 = p.b1 := rfl
        simp only [tkv, oth_len, e0, e1, HZ.out.1, HZ.out.2.1, HZ.out.2.2.1] at h
        exact h
      have HNX : Hid (∀ Y, TN q r W #[.string nm, .slice a0 n0 p0, .slice a1 n1 p1, .slice (some ⟨ba, oa, none⟩) L cl] #[.string nm, .slice b0 m0 k0, .slice b1 m1 k1, .slice bl M kl] (oth p y) t nm g0 g1 B gl tl (.slice (some ⟨gt, 0, none⟩) L ct) u3 u4 gs9 #[.string nm, .slice a0 n0 p0, .slice a1 n1 p1, .slice aN L cN] (.slice aN L cN) L (lcw (lfw p.ln B)) Y → RdP Y (.agg #[.string nm, .slice a0 n0 p0, .slice a1 n1 p1, .slice aN L cN]) (oth p y) ∧ Y.cell? ⟨r, 0, none⟩ = some (.string nm) ∧ Y.cell? ⟨r, 1, none⟩ = some (.slice a0 n0 p0) ∧ Y.cell? ⟨r, 2, none⟩ = some (.slice a1 n1 p1) ∧ Y.cell? ⟨r, 3, none⟩ = some (.slice aN L cN)) := fun Y hY => by
        have hsm := oth_small HSM.out y
        refine ⟨hY.rdp (by rw [oth_len, HZ.out.1]) (by rw [lfw_oth]) ⟨hsm.2.2.1, hsm.2.2.2⟩ (HN0.out Y hY.t2.old) (HN1.out Y hY.t2.old) HZ.out.2.2.2.1, ?_, ?_, ?_, ?_⟩
        · rw [cell_of_row _ _ _ _ _ _ hY.bx]; rfl
        · rw [cell_of_row _ _ _ _ _ _ hY.bx]; rfl
        · rw [cell_of_row _ _ _ _ _ _ hY.bx]; rfl
        · rw [cell_of_row _ _ _ _ _ _ hY.bx]; rfl
      obtain ⟨x0, x1, x2, x3⟩ := hrow wr HSi.out
      have CL := HPL.out wr _ (oth p y) more hrt HSi.out.t2.old HMO.out.1 HMO.out.2
      obtain ⟨cz, hcz⟩ : ∃ cz, lvE (oth p y) more = cz := ⟨_, rfl⟩
      obtain ⟨gz, hgz⟩ : ∃ gz, lvL (oth p y) more = gz := ⟨_, rfl⟩
      have HCZ : Hid (lvE (oth p y) more = cz ∧ lvL (oth p y) more = gz ∧ gz.length ≤ 140737488355328) := ⟨hcz, hgz, by rw [← hgz]; exact HSL.out _ _⟩
      rw [hcz, hgz] at CL
      have hccz : (cz == cz) = true := by simp
      clear hrow hrt hcz hgz
      go_wp2_with (first
        | (go_at_call 11; refine Calls.mono CL ?_; clear CL; rintro e wj ⟨u5, rfl, ho, hb⟩; have HSj : Hid (TN q r W #[.string nm, .slice a0 n0 p0, .slice a1 n1 p1, .slice (some ⟨ba, oa, none⟩) L cl] #[.string nm, .slice b0 m0 k0, .slice b1 m1 k1, .slice bl M kl] (oth p y) t nm g0 g1 B gl tl (.slice (some ⟨gt, 0, none⟩) L ct) u3 u4 gs9 #[.string nm, .slice a0 n0 p0, .slice a1 n1 p1, .slice aN L cN] (.slice aN L cN) L (lcw (lfw p.ln B)) wj) := HSi.out.below hb; have HOj : Hid (wj.ownsRow q 48 3 u5 gz.length (gcs gz)) := ho; clear ho hb x0 x1 x2 x3; (obtain ⟨hnx, x0, x1, x2, x3⟩ := HNX.out wj HSj.out); have CR := HPR.out wj _ (oth p y) more hnx HSj.out.t2.old HMO.out.1 HMO.out.2; rw [HCZ.out.1, HCZ.out.2.1] at CR; clear hnx)
        | (go_at_call 12; refine Calls.mono CR ?_; clear CR; rintro e wk ⟨u6, rfl, ho, hb⟩; have HSk : Hid (TN q r W #[.string nm, .slice a0 n0 p0, .slice a1 n1 p1, .slice (some ⟨ba, oa, none⟩) L cl] #[.string nm, .slice b0 m0 k0, .slice b1 m1 k1, .slice bl M kl] (oth p y) t nm g0 g1 B gl tl (.slice (some ⟨gt, 0, none⟩) L ct) u3 u4 gs9 #[.string nm, .slice a0 n0 p0, .slice a1 n1 p1, .slice aN L cN] (.slice aN L cN) L (lcw (lfw p.ln B)) wk) := HSj.out.below hb; have CG1 := grades_same (own_rd (owns_below hb HOj.out) HCZ.out.2.2) (own_rd ho HCZ.out.2.2); have CC := HCD.out wk (oth p y) more HSk.out.t2.old; rw [HCZ.out.1] at CC; clear ho hb x0 x1 x2 x3)
        | (go_at_call 13; refine Calls.mono CC ?_; clear CC; rintro e w7 ⟨rfl, hw7⟩; have hw8 := hw7.symm; subst hw8)
        | (go_at_call 14; refine Calls.mono CG1 ?_; clear CG1; rintro e wl ⟨rfl, hb⟩; have HSl : Hid (TN q r W #[.string nm, .slice a0 n0 p0, .slice a1 n1 p1, .slice (some ⟨ba, oa, none⟩) L cl] #[.string nm, .slice b0 m0 k0, .slice b1 m1 k1, .slice bl M kl] (oth p y) t nm g0 g1 B gl tl (.slice (some ⟨gt, 0, none⟩) L ct) u3 u4 gs9 #[.string nm, .slice a0 n0 p0, .slice a1 n1 p1, .slice aN L cN] (.slice aN L cN) L (lcw (lfw p.ln B)) wl) := HSk.out.below hb; have CG2 := grades_same (own_rd HSl.out.o3 HCH.out.2.2) (own_rd HSl.out.o4 HCH.out.2.2); clear hb)
        | (go_at_call 14; refine Calls.mono CG2 ?_; clear CG2; rintro e wm ⟨rfl, hb⟩; have HSm : Hid (TN q r W #[.string nm, .slice a0 n0 p0, .slice a1 n1 p1, .slice (some ⟨ba, oa, none⟩) L cl] #[.string nm, .slice b0 m0 k0, .slice b1 m1 k1, .slice bl M kl] (oth p y) t nm g0 g1 B gl tl (.slice (some ⟨gt, 0, none⟩) L ct) u3 u4 gs9 #[.string nm, .slice a0 n0 p0, .slice a1 n1 p1, .slice aN L cN] (.slice aN L cN) L (lcw (lfw p.ln B)) wm) := HSl.out.below hb; have CK := HKN.out wm (HER.out wm HSm.out.t2.old); clear hb)
        | (go_at_call 16; refine Calls.mono CK ?_; clear CK; rintro e wz ⟨rfl, hb⟩; have HPz : Hid (Below q W wz) := HSm.out.t2.old.trans (hb.mono (by have := HSm.out.t2.lt; omega)); clear hb))
      go_ret
      exact ⟨rfl, HPz.out⟩
end Go.Proofs.YtjhleocpipmklaaDoor
