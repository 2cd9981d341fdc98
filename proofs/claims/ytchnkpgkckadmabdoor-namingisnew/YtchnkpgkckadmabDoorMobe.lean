import Derived.Test.YtchnkpgkckadmabDoorMobd
namespace Go.Proofs.YtchnkpgkckadmabDoor
set_option linter.unusedSimpArgs false
set_option linter.unusedVariables false
set_option maxRecDepth 100000
open Go.ChangeShapes Go.WideShapes Go.ChangeAt Go.RowKit Go.Pin Go.Pat Go.Deep
theorem cat_eq (f : ByteArray) : (⟨#[78, 111, 105, 115, 101, 95]⟩ : ByteArray) ++ f ++ ⟨#[95, 50, 53, 53, 49, 57, 95, 67, 104, 97, 67, 104, 97, 80, 111, 108, 121, 95, 66, 76, 65, 75, 69, 50, 115]⟩ = hdN ++ f ++ tlN := rfl
theorem cat_size (f : ByteArray) : (hdN ++ f ++ tlN).size = f.size + 31 := by rw [ByteArray.size_append, ByteArray.size_append]; show 6 + f.size + 25 = _; omega
/-- what is known of a pattern that Parse has answered -/
theorem prs_bd {t : ByteArray} {P : Pt} (h : nprs t = (P, 0)) {fs : List Lv} (hl : lvl fs = P.ln) : 0 < fs.length ∧ fs.length ≤ 24 ∧ P.b0.length ≤ 24 ∧ P.b1.length ≤ 24 ∧ ∀ f ∈ fs, f.2.2.length ≤ 24 := by
  have hc : chk P = 0 := by have := (nprs_back (t := t) (by rw [h])).2.1; rw [h] at this; exact this
  obtain ⟨h1, h2, h3, h4, h5⟩ := shaped_all (chk_shaped hc)
  have hlen : fs.length = P.ln.length := by rw [← hl]; simp [lvl]
  refine ⟨by omega, by omega, by omega, by omega, fun f hf => ?_⟩
  exact (h5 (f.1, f.2.2) (by rw [← hl]; exact List.mem_map.2 ⟨f, hf, rfl⟩)).2.2.1
/-- the names' row, and all that has been answered -/
structure SB (q : Nat) (W0 : World) (t1 t2 : ByteArray) (v6 : Value) (Q : List (PE × Nat)) (w : World) : Prop where
  old : Below q W0 w
  nm : w.heap[q]? = some (.cells #[.string t1, .string t2, .string t1] 9)
  sa : SA (q + 1) v6 Q w
  lt : q < w.heap.size
theorem SB.below {q : Nat} {W0 w w' : World} {t1 t2 : ByteArray} {v6 : Value} {Q : List (PE × Nat)} (h : SB q W0 t1 t2 v6 Q w) (hb : Below w.heap.size w w') : SB q W0 t1 t2 v6 Q w' :=
  ⟨h.old.trans (hb.mono (Nat.le_of_lt h.lt)), (hb.block q h.lt).trans h.nm, h.sa.below hb, Nat.lt_of_lt_of_le h.lt hb.size⟩
set_option maxHeartbeats 16000000 in
theorem isnew_walk {ea : Int → Addr} (f1 f2 : ByteArray) (W : World) (hE : Errs ea W) (hf1 : f1.size ≤ 140737488355328) (hf2 : f2.size ≤ 140737488355328) :
    Calls Tryd.prog 3 #[.string f1, .string f2] W fun e w' => e = .returned (.bool true) ∧ Below W.heap.size W w' := by
  have CW := awake_any W hE
  obtain ⟨q, hq⟩ : ∃ q, W.heap.size = q := ⟨_, rfl⟩
  have HQ : Hid (W.heap.size = q) := hq
  have HE : Hid (∀ Y, Below q W Y → Errs ea Y) := fun Y hY => hE.below (by rw [hq]; exact hY)
  rw [hq] at CW ⊢
  obtain ⟨n1, hn1⟩ : ∃ n, f1.size = n := ⟨_, rfl⟩
  obtain ⟨n2, hn2⟩ : ∃ n, f2.size = n := ⟨_, rfl⟩
  clear hE
  by_cases z1 : 1000 < n1
  · have t0 : (n1 : Int) > 1000 := by omega
    have t1 : (1000 : Int) < (n1 : Int) := by omega
    clear z1
    go_enter Tryd.func3, Tryd.ntmps3
    go_wp2_with (go_at_call 4; refine CW.mono ?_; rintro e w6 ⟨rfl, hb⟩; have H6 : Hid (Below q W w6) := hb; clear hb CW)
    go_ret
    exact ⟨rfl, H6.out⟩
  have t0 : ¬ (n1 : Int) > 1000 := by omega
  have t1 : ¬ (1000 : Int) < (n1 : Int) := by omega
  by_cases z2 : 1000 < n2
  · have t2 : (n2 : Int) > 1000 := by omega
    have t3 : (1000 : Int) < (n2 : Int) := by omega
    clear z1 z2
    go_enter Tryd.func3, Tryd.ntmps3
    go_wp2_with (go_at_call 4; refine CW.mono ?_; rintro e w6 ⟨rfl, hb⟩; have H6 : Hid (Below q W w6) := hb; clear hb CW)
    go_ret
    exact ⟨rfl, H6.out⟩
  have t2 : ¬ (n2 : Int) > 1000 := by omega
  have t3 : ¬ (1000 : Int) < (n2 : Int) := by omega
  have ap1 := cat_eq f1
  have ap2 := cat_eq f2
  have HS : Hid ((hdN ++ f1 ++ tlN).size ≤ 2000 ∧ (hdN ++ f2 ++ tlN).size ≤ 2000) := ⟨by rw [cat_size]; omega, by rw [cat_size]; omega⟩
  obtain ⟨s1, hs1⟩ : ∃ s, hdN ++ f1 ++ tlN = s := ⟨_, rfl⟩
  obtain ⟨s2, hs2⟩ : ∃ s, hdN ++ f2 ++ tlN = s := ⟨_, rfl⟩
  rw [hs1] at ap1 HS
  rw [hs2] at ap2 HS
  have hst : SB q W s1 s2 (.slice none 0 0) [] (W.alloc (.cells #[.string s1, .string s2, .string s1] 9)) :=
    ⟨(Below.refl _ _).alloc (by omega) _, by rw [← hq]; exact heap_alloc_new _ _, sa_nil _ _, by rw [size_alloc]; omega⟩
  obtain ⟨W0, hW0⟩ : ∃ W0, W.alloc (.cells #[.string s1, .string s2, .string s1] 9) = W0 := ⟨_, rfl⟩
  rw [hW0] at hst
  have H0 : Hid (SB q W s1 s2 (.slice none 0 0) [] W0) := hst
  clear hst hs1 hs2 z1 z2 CW
  go_enter Tryd.func3, Tryd.ntmps3
  go_upto_region 6 with (fail)
  clear t0 t1 t2 t3 ap1 ap2 hW0
  go_loopw [6, 7] (fun v6 v7 wr => ∃ (i n : Nat) (Q : List (PE × Nat)) (a6 : Option Addr) (k6 : Nat), i ≤ 3 ∧ v7 = .int .i64 i ∧ v6 = .slice a6 n k6 ∧ Q.length = n ∧ n ≤ i ∧ SB q W s1 s2 (.slice a6 n k6) Q wr) (fun _ v _ => 3 - (intOf v).toNat)
  case atStart => exact ⟨0, 0, [], none, 0, Nat.zero_le _, rfl, rfl, rfl, Nat.le_refl _, H0.out⟩
  case round =>
    obtain ⟨i, n, Q, a6, k6, hi, rfl, rfl, hn, hQ, hsb⟩ := hrel
    have HNQ : Hid (Q.length = n) := hn
    have bi0 : (0 : Int) ≤ (i : Int) := by omega
    have HSB : Hid (SB q W s1 s2 (.slice a6 n k6) Q wr) := hsb
    by_cases hlt : i < 3
    · have b1 : (i : Int) < 3 := by omega
      have HLT : Hid (i < 3 ∧ n ≤ i) := ⟨hlt, hQ⟩
      obtain ⟨t, hc, ht⟩ : ∃ t, wr.cell? ⟨q, i, none⟩ = some (.string t) ∧ t.size ≤ 2000 := by
        rcases (by omega : i = 0 ∨ i = 1 ∨ i = 2) with rfl | rfl | rfl
        · exact ⟨s1, by rw [cell_of_row _ _ _ _ _ _ hsb.nm]; rfl, HS.out.1⟩
        · exact ⟨s2, by rw [cell_of_row _ _ _ _ _ _ hsb.nm]; rfl, HS.out.2⟩
        · exact ⟨s1, by rw [cell_of_row _ _ _ _ _ _ hsb.nm]; rfl, HS.out.1⟩
      have CP := nparse_any (ea := ea) t wr (HE.out wr hsb.old) (by omega)
      unfold NpP at CP
      clear hlt hi hQ hsb ht hn
      rcases nprs_two t with hp | hp
      · obtain ⟨md, hmd⟩ : ∃ md, nprs t = md := ⟨_, rfl⟩
        rw [hmd] at hp CP
        obtain ⟨P, c⟩ := md
        simp only at hp CP
        subst hp
        simp only [EV_0] at CP
        have HMD : Hid (nprs t = (P, 0)) := hmd
        clear hmd
        go_upto_region 9 with (go_at_call 5; refine CP.mono ?_; rintro e w1 ⟨hb, v0, v1, vl, rfl, hft, hex⟩; obtain ⟨d0, m0, e0, rfl⟩ := hft.1.sl3; obtain ⟨d1, m1, e1, rfl⟩ := hft.2.1.sl3; obtain ⟨d2, m2, e2, rfl⟩ := hft.2.2.sl3; have H1 : Hid (Below wr.heap.size wr w1 ∧ ∃ fs, lvl fs = P.ln ∧ EX wr.heap.size [] [(0, .slice d0 m0 e0, P.b0), (1, .slice d1 m1 e1, P.b1)] fs (.slice d2 m2 e2) w1) := ⟨hb, hex trivial⟩; clear hb hft hex CP)
        have ha2 : Below w1.heap.size w1 (w1.alloc (.cells #[.string P.nm, .slice d0 m0 e0, .slice d1 m1 e1, .slice d2 m2 e2] 29)) := (Below.refl _ _).alloc (Nat.le_refl _) _
        have hr2 := heap_alloc_new w1 (.cells #[.string P.nm, .slice d0 m0 e0, .slice d1 m1 e1, .slice d2 m2 e2] 29)
        obtain ⟨g2, hg2⟩ : ∃ g, w1.heap.size = g := ⟨_, rfl⟩
        obtain ⟨w2, hw2⟩ : ∃ w2, w1.alloc (.cells #[.string P.nm, .slice d0 m0 e0, .slice d1 m1 e1, .slice d2 m2 e2] 29) = w2 := ⟨_, rfl⟩
        rw [hw2] at ha2 hr2 ⊢
        simp only [hg2] at hr2 ⊢
        obtain ⟨hb1, fs, hfs, hex⟩ := H1.out
        have hb2 : Below wr.heap.size wr w2 := hb1.trans (ha2.mono hb1.size)
        have k0 := cell_of_row w2 g2 0 _ _ _ hr2
        have k1 := cell_of_row w2 g2 1 _ _ _ hr2
        have k2 := cell_of_row w2 g2 2 _ _ _ hr2
        have k3 := cell_of_row w2 g2 3 _ _ _ hr2
        simp at k0 k1 k2 k3
        obtain ⟨nm, hnm⟩ : ∃ nm, P.nm = nm := ⟨_, rfl⟩
        rw [hnm] at k0
        simp only [hnm]
        have ha3 : Below w2.heap.size w2 (w2.alloc (.cells #[.string nm, .slice d0 m0 e0, .slice d1 m1 e1, .slice d2 m2 e2] 29)) := (Below.refl _ _).alloc (Nat.le_refl _) _
        have hb3 := hb2.trans (ha3.mono hb2.size)
        have hex3 := (hex.below ha2).below ha3
        have hsb3 := HSB.out.below hb3
        have hrow : (w2.alloc (.cells #[.string nm, .slice d0 m0 e0, .slice d1 m1 e1, .slice d2 m2 e2] 29)).heap[w2.heap.size]? = some (.cells [Value.string nm, .slice d0 m0 e0, .slice d1 m1 e1, .slice d2 m2 e2].toArray 29 (0, 0)) := heap_alloc_new _ _
        have hown := hsb3.sa.a6
        rw [HNQ.out] at hown
        have HAP : Hid _ := own_app Tryd.underlying24 parts_pat rfl (by decide) hown hrow rfl (fun u hu => by simp at hu; rcases hu with rfl | rfl | rfl | rfl <;> rfl) (by have := HLT.out; omega) (by have := HLT.out; omega) (by rw [size_alloc]; have := HSB.out.lt; have := hb2.size; omega)
        have HADD : Hid (_ ∧ _ ∧ _ ∧ _) := ⟨hb3, hex3, hsb3, prs_bd HMD.out hfs⟩
        clear hb1 hfs hex hb2 ha2 hr2 hw2 hg2 ha3 hb3 hex3 hsb3 hrow hown hc H1
        go_wp2_with (at_builtin; go_loud (refine wpList_app _ rfl (.tmp 63) (.tmp 65) 24 24 rfl _ _ rfl rfl HAP.out ?_; rintro v' w6 ⟨h1, h2, h3⟩; have H6 : Hid (_ ∧ _ ∧ _) := ⟨h1, h2, h3⟩; obtain ⟨a7, k7, hv7⟩ := own_slice' h1; subst hv7; clear h1 h2 h3))
        obtain ⟨hb3, hex3, hsb3, hbd⟩ := HADD.out
        obtain ⟨h1, h2, h3⟩ := H6.out
        obtain ⟨g, hsa⟩ := SA.add (p := ⟨nm, .slice d0 m0 e0, .slice d1 m1 e1, .slice d2 m2 e2, P.b0, P.b1, fs⟩) HSB.out.sa (by have := HSB.out.lt; omega) rfl hb3 hex3 hbd.1 ⟨hbd.2.1, fun f hf => by
            rcases List.mem_cons.1 hf with rfl | hf
            · exact hbd.2.2.1
            · rcases List.mem_cons.1 hf with rfl | hf
              · exact hbd.2.2.2.1
              · exact hbd.2.2.2.2 f hf⟩ (by rw [HNQ.out]; exact h1) h2 (by
            rcases h3 with h3 | h3
            · exact .inl h3
            · exact .inr ⟨_, h3, Nat.le_refl _⟩)
        have hq6 : q + 1 ≤ wr.heap.size := HSB.out.lt
        refine ⟨⟨i + 1, n + 1, Q ++ [(_, g)], a7, k7, HLT.out.1, congrArg (Value.int .i64) (Int.natCast_succ i).symm, rfl, by rw [List.length_append, HNQ.out]; rfl, by have := HLT.out.2; omega, ?_, ?_, hsa, ?_⟩, by have := HLT.out.1; show 3 - ((i : Int) + 1).toNat < 3 - ((i : Int)).toNat; omega⟩
        · exact hsb3.old.grown h2 (by have := hsb3.lt; omega) (fun k hk => by have := hsb3.sa.a6.lt k hk; omega)
        · refine (h2.block q hsb3.lt (fun e => ?_)).trans hsb3.nm
          have := hsb3.sa.a6.lt q e.symm
          omega
        · exact Nat.lt_of_lt_of_le hsb3.lt h2.size
      · rw [hp] at CP
        simp only [EV_ne (show (13 : Int) ≠ 0 by decide)] at CP
        clear hp
        go_upto_region 9 with (go_at_call 5; refine CP.mono ?_; rintro e w1 ⟨hb, v0, v1, vl, rfl, hft, hex⟩; obtain ⟨d0, m0, e0, rfl⟩ := hft.1.sl3; obtain ⟨d1, m1, e1, rfl⟩ := hft.2.1.sl3; obtain ⟨d2, m2, e2, rfl⟩ := hft.2.2.sl3; have H1 : Hid (Below wr.heap.size wr w1) := hb; clear hb hft hex CP)
        have h2 := (HSB.out.below H1.out).below ((Below.refl w1.heap.size w1).alloc (Nat.le_refl _) (.cells #[.string zPt.nm, .slice d0 m0 e0, .slice d1 m1 e1, .slice d2 m2 e2] 29))
        obtain ⟨w2, hw2⟩ : ∃ w2, w1.alloc (.cells #[.string zPt.nm, .slice d0 m0 e0, .slice d1 m1 e1, .slice d2 m2 e2] 29) = w2 := ⟨_, rfl⟩
        rw [hw2] at h2 ⊢
        have H2 : Hid _ := h2
        clear h2 hw2 hc
        go_wp2
        exact ⟨⟨i + 1, n, Q, a6, k6, HLT.out.1, congrArg (Value.int .i64) (Int.natCast_succ i).symm, rfl, HNQ.out, by have := HLT.out.2; omega, H2.out⟩, by have := HLT.out.1; show 3 - ((i : Int) + 1).toNat < 3 - ((i : Int)).toNat; omega⟩
    · have b1 : ¬ (i : Int) < 3 := by omega
      have HN3 : Hid (n ≤ 3) := by show _ ≤ _; omega
      have bn : (n : Int) ≤ 3 := by omega
      have bn0 : (0 : Int) ≤ (n : Int) := by omega
      clear hlt hi hQ hsb hn
      go_upto_region 14 with (fail)
      clear b1
      obtain ⟨w8, rfl⟩ : ∃ w8, w8 = wr := ⟨wr, rfl⟩
      obtain ⟨q2, hq2⟩ : ∃ q2, w8.heap.size = q2 := ⟨_, rfl⟩
      have HQ2 : Hid (w8.heap.size = q2) := hq2
      have HLL : Hid (∀ i x, Q[i]? = some x → qls (Q.take (i + 1)) = qls (Q.take i) ++ lsts x.1) := fun i x h => by rw [List.take_add_one, h]; exact qls_snoc _ _
      clear hq2
      go_loopw [10, 11, 12] (fun v10 v11 v12 y => ∃ (i r m : Nat) (a11 : Option Addr) (k11 : Nat), i ≤ n ∧ v12 = .int .i64 i ∧ v10 = .int .i64 r ∧ r ≤ 24 * i ∧ v11 = .slice a11 m k11 ∧ (qls (Q.take i)).length = m ∧ m ≤ 26 * i ∧ Below q2 w8 y ∧ y.ownsRow q2 25 1 (.slice a11 m k11) m ((qls (Q.take i)).map fun f => f.2.1)) (fun _ _ v _ => n - (intOf v).toNat)
      case atStart => exact ⟨0, 0, 0, none, 0, Nat.zero_le _, rfl, rfl, Nat.le_refl _, rfl, rfl, Nat.le_refl _, Below.refl _ _, own_nil0 _ _ _ _⟩
      case round =>
        obtain ⟨i, r, m, a11, k11, hi, rfl, rfl, hr, rfl, hm, hm26, hbl, hown⟩ := hrel
        have bi0 : (0 : Int) ≤ (i : Int) := by omega
        by_cases hlt : i < n
        · have b1 : (i : Int) < (n : Int) := by omega
          have bi : (i : Int) ≤ 3 := by omega
          obtain ⟨x, hx⟩ : ∃ x, Q[i]? = some x := ⟨_, List.getElem?_eq_getElem (by rw [HNQ.out]; exact hlt)⟩
          obtain ⟨p, gl⟩ := x
          have hmem := List.mem_of_getElem? hx
          obtain ⟨g6, ha6, c0, c1, c2, c3⟩ := HSB.out.sa.pat hx
          have hln := HSB.out.sa.ln _ hmem
          have hbd := HSB.out.sa.bd _ hmem
          obtain ⟨ol, cur, cpl, hvl, hcp, hrl, hcl, hcz⟩ := hln.2.1
          have hml : ∀ f ∈ lsts p, f ∈ qls Q := fun f hf => List.mem_flatMap.2 ⟨_, hmem, hf⟩
          obtain ⟨z0, l0, hv0⟩ := own_slice' (HSB.out.sa.ow (0, p.v0, p.b0) (hml _ (by simp [lsts])))
          obtain ⟨z1, l1, hv1⟩ := own_slice' (HSB.out.sa.ow (1, p.v1, p.b1) (hml _ (by simp [lsts])))
          simp only at hv0 hv1 c0 c1 c2 c3 hvl hcl hln hbd hcp
          rw [hv0] at c1
          rw [hv1] at c2
          rw [hvl] at c3
          have HX : Hid (Q[i]? = some (p, gl) ∧ i < n ∧ p.fs.length ≤ 24 ∧ (∀ f ∈ lsts p, f ∈ qls Q)) := ⟨hx, hlt, hbd.1, hml⟩
          have HV : Hid (p.v0 = .slice z0 p.b0.length l0 ∧ p.v1 = .slice z1 p.b1.length l1) := ⟨hv0, hv1⟩
          have HLN : Hid (w8.heap[gl]? = some (.cells cur 36 (0, 0)) ∧ ∀ j, j < p.fs.length → cur[ol + j * 2 + 1]? = some (p.fs.getD j (0, undef, [])).2.1) := ⟨hrl, fun j hj => (hcl j hj).2⟩
          have HR : Hid (r ≤ 24 * i ∧ (qls (Q.take i)).length = m ∧ m ≤ 26 * i ∧ Below q2 w8 wr ∧ wr.ownsRow q2 25 1 (.slice a11 m k11) m ((qls (Q.take i)).map fun f => f.2.1)) := ⟨hr, hm, hm26, hbl, hown⟩
          subst ha6
          have HC3 : Hid (∀ Y, Below q2 w8 Y → Y.cell? ⟨g6, i * 4 + 3, none⟩ = some (.slice (some ⟨gl, ol, none⟩) p.fs.length cpl)) := fun Y hY => cell_below (by rw [HQ2.out]; exact hY) c3
          have HBL : Hid (Below q2 w8 wr.drew) := hbl.trans (by exact (Below.refl _ _).drew)
          obtain ⟨n0, hn0⟩ : ∃ n0, p.b0.length = n0 := ⟨_, rfl⟩
          obtain ⟨n1', hn1'⟩ : ∃ n1', p.b1.length = n1' := ⟨_, rfl⟩
          rw [hn0] at c1 HV
          rw [hn1'] at c2 HV
          clear hlt hi hx hmem hln hbd hcl hrl hml hv0 hv1 hr hm hm26 hbl hown hvl hcz hcp c0 c3 hn0 hn1'
          go_upto_region 16 with (fail)
          refine Go.Pin.wp_region_hcls (fun Y => Below q2 w8 Y) 16 (by rfl) (by kernel_rfl) HBL.out ?_
          intro Sq fq hNq hRq hSq
          have y1 := fun x => cell_below (W := fq x) (by rw [HQ2.out]; exact hRq x) c1
          have y2 := fun x => cell_below (W := fq x) (by rw [HQ2.out]; exact hRq x) c2
          have st0 := HBL.out
          clear c1 c2
          refine Go.Pin.takeQ 0 (by simp only [List.getElem?_toArray, List.getElem?_cons_zero, List.getElem?_cons_succ]; exact rfl) (by kernel_rfl) (by kernel_rfl) (by kernel_rfl) (by rfl) (fun _ _ d _ _ h => by cases d <;> exact h) (st0) (hSq).out (by kernel_rfl) ?_
          intro Kq hKq
          go_big_quiet_op
          go_big_quiet_on
          refine Go.Pin.takeQ 1 (by simp only [List.getElem?_toArray, List.getElem?_cons_zero, List.getElem?_cons_succ]; exact rfl) (by kernel_rfl) (by kernel_rfl) (by kernel_rfl) (by rfl) (fun _ _ d _ _ h => by cases d <;> exact h) (st0) (hSq).out (by kernel_rfl) ?_
          intro Kq hKq
          go_big_quiet_op
          go_big_quiet_on
          refine Go.Pin.takeQ 2 (by simp only [List.getElem?_toArray, List.getElem?_cons_zero, List.getElem?_cons_succ]; exact rfl) (by kernel_rfl) (by kernel_rfl) (by kernel_rfl) (by rfl) (fun _ _ d _ _ h => by cases d <;> exact h) (st0) (hSq).out (by kernel_rfl) ?_
          intro Kq hKq
          go_big_quiet_op
          go_big_quiet_on
          refine Go.Pin.takeQ 3 (by simp only [List.getElem?_toArray, List.getElem?_cons_zero, List.getElem?_cons_succ]; exact rfl) (by kernel_rfl) (by kernel_rfl) (by kernel_rfl) (by rfl) (fun _ _ d _ _ h => by cases d <;> exact h) (st0) (hSq).out (by kernel_rfl) ?_
          intro Kq hKq
          go_big_quiet_op
          go_big_quiet_on
          refine Go.Pin.takeQ 4 (by simp only [List.getElem?_toArray, List.getElem?_cons_zero, List.getElem?_cons_succ]; exact rfl) (by kernel_rfl) (by kernel_rfl) (by kernel_rfl) (by rfl) (fun _ _ d _ _ h => by cases d <;> exact h) (st0) (hSq).out (by kernel_rfl) ?_
          intro Kq hKq
          go_big_quiet_op
          go_big_quiet_on
          refine Go.Pin.takeQ 5 (by simp only [List.getElem?_toArray, List.getElem?_cons_zero, List.getElem?_cons_succ]; exact rfl) (by kernel_rfl) (by kernel_rfl) (by kernel_rfl) (by rfl) (fun _ _ d _ _ h => by cases d <;> exact h) (st0) (hSq).out (by kernel_rfl) ?_
          intro Kq hKq
          go_big_quiet_op
          go_big_quiet_on
          refine Go.Pin.takeQ 6 (by simp only [List.getElem?_toArray, List.getElem?_cons_zero, List.getElem?_cons_succ]; exact rfl) (by kernel_rfl) (by kernel_rfl) (by kernel_rfl) (by rfl) (fun _ _ d _ _ h => by cases d <;> exact h) (st0) (hSq).out (by kernel_rfl) ?_
          intro Kq hKq
          go_big_quiet_op
          go_big_quiet_on
          refine Go.Pin.takeQ 7 (by simp only [List.getElem?_toArray, List.getElem?_cons_zero, List.getElem?_cons_succ]; exact rfl) (by kernel_rfl) (by kernel_rfl) (by kernel_rfl) (by rfl) (fun _ _ d _ _ h => by cases d <;> exact h) (st0) (hSq).out (by kernel_rfl) ?_
          intro Kq hKq
          go_big_quiet_op
          go_big_quiet_on
          refine Go.Pin.takeQ 8 (by simp only [List.getElem?_toArray, List.getElem?_cons_zero, List.getElem?_cons_succ]; exact rfl) (by kernel_rfl) (by kernel_rfl) (by kernel_rfl) (by rfl) (fun _ _ d _ _ h => by cases d <;> exact h) (st0) (hSq).out (by kernel_rfl) ?_
          intro Kq hKq
          go_big_quiet_op
          go_big_quiet_on
          refine Go.Pin.takeQ 9 (by simp only [List.getElem?_toArray, List.getElem?_cons_zero, List.getElem?_cons_succ]; exact rfl) (by kernel_rfl) (by kernel_rfl) (by kernel_rfl) (by rfl) (fun _ _ d _ _ h => by cases d <;> exact h) (st0) (hSq).out (by kernel_rfl) ?_
          intro Kq hKq
          go_big_quiet_op
          go_big_quiet_on
          refine Go.Pin.takeQ 10 (by simp only [List.getElem?_toArray, List.getElem?_cons_zero, List.getElem?_cons_succ]; exact rfl) (by kernel_rfl) (by kernel_rfl) (by kernel_rfl) (by rfl) (fun _ _ d _ _ h => by cases d <;> exact h) (st0) (hSq).out (by kernel_rfl) ?_
          intro Kq hKq
          go_big_quiet_op
          go_big_quiet_on
          refine Go.Pin.takeQ 11 (by simp only [List.getElem?_toArray, List.getElem?_cons_zero, List.getElem?_cons_succ]; exact rfl) (by kernel_rfl) (by kernel_rfl) (by kernel_rfl) (by rfl) (fun _ _ d _ _ h => by cases d <;> exact h) (st0) (hSq).out (by kernel_rfl) ?_
          intro Kq hKq
          go_big_quiet_op
          go_big_quiet_on
          refine Go.Pin.takeQ 12 (by simp only [List.getElem?_toArray, List.getElem?_cons_zero, List.getElem?_cons_succ]; exact rfl) (by kernel_rfl) (by kernel_rfl) (by kernel_rfl) (by rfl) (fun _ _ d _ _ h => by cases d <;> exact h) (st0) (hSq).out (by kernel_rfl) ?_
          intro Kq hKq
          go_big_quiet_op
          go_big_quiet_on
          obtain ⟨wd, hwd⟩ : ∃ wd, wr.drew = wd := ⟨_, rfl⟩
          have hown : wd.ownsRow q2 25 1 (.slice a11 m k11) m ((qls (Q.take i)).map fun f => f.2.1) := by rw [← hwd]; exact owns_below ((Below.refl _ _).drew) HR.out.2.2.2.2
          rw [hwd] at st0 ⊢
          have hq2w : q2 ≤ wd.heap.size := by have := st0.size; have := HQ2.out; omega
          have hst1 : Below q2 w8 (wd.alloc (.cells #[.slice z0 n0 l0, .slice z1 n1' l1] 25)) := st0.alloc hq2w _
          have hown1 := hown.alloc (.cells #[.slice z0 n0 l0, .slice z1 n1' l1] 25)
          have hrow : (wd.alloc (.cells #[.slice z0 n0 l0, .slice z1 n1' l1] 25)).heap[wd.heap.size]? = some (.cells [Value.slice z0 n0 l0, .slice z1 n1' l1].toArray 25 (0, 0)) := heap_alloc_new _ _
          have hap := own_appK (m := 2) Tryd.underlying34 parts_ints rfl hown1 hrow rfl (fun u hu => by simp at hu; rcases hu with rfl | rfl <;> rfl) (by have := HR.out.2.2.1; have := HX.out.2.1; have := HN3.out; omega) (by have := HR.out.2.2.1; have := HX.out.2.1; have := HN3.out; omega) (by rw [size_alloc]; omega)
          refine Go.Pin.readyQ 13 (by simp only [List.getElem?_toArray, List.getElem?_cons_zero, List.getElem?_cons_succ]; exact rfl) (by kernel_rfl) (by kernel_rfl) ?_
          intro K hK
          refine wpRun (d := some 86) (v := .slice (some ⟨wd.heap.size, 0, none⟩) 2 2) (w' := wd.alloc (.cells #[.slice z0 n0 l0, .slice z1 n1' l1] 25)) rfl (by unfold execOp; go_simp) (hK _ _ hst1 ?_)
          simp only [Act.put, List.setIfInBounds_toArray, List.set_cons_zero, List.set_cons_succ]
          clear hK K
          refine Go.Pin.readyQ 14 (by simp only [List.getElem?_toArray, List.getElem?_cons_zero, List.getElem?_cons_succ]; exact rfl) (by kernel_rfl) (by kernel_rfl) ?_
          intro K hK
          refine wpApp (d := some 87) (v := .slice a11 m k11) (u := .slice (some ⟨wd.heap.size, 0, none⟩) 2 2) (R := fun v' w' => w'.ownsRow q2 25 1 v' (m + 2) (((qls (Q.take i)).map fun f => f.2.1) ++ [.slice z0 n0 l0, .slice z1 n1' l1]) ∧ Below q2 w8 w') rfl rfl rfl rfl (fun ty => by
            obtain ⟨v', w', h1, h2, h3, _⟩ := hap ty
            exact ⟨v', w', h1, h2, app_below hst1 (by rw [size_alloc]; omega) hown1 h3⟩) (fun v' w6 h6 => ?_)
          obtain ⟨h6, hb6⟩ := h6
          obtain ⟨a12, k12, rfl⟩ := own_slice' h6
          refine hK _ _ hb6 ?_
          simp only [Act.put, List.setIfInBounds_toArray, List.set_cons_zero, List.set_cons_succ]
          clear hK K
          refine Go.Pin.readyQ 15 (by simp only [List.getElem?_toArray, List.getElem?_cons_zero, List.getElem?_cons_succ]; exact rfl) (by kernel_rfl) (by kernel_rfl) ?_
          intro K hK
          refine wpRun (d := some 11) (v := .slice a12 (m + 2) k12) (w' := w6) rfl (by unfold execOp; go_simp) (hK _ _ hb6 ?_)
          simp only [Act.put, List.setIfInBounds_toArray, List.set_cons_zero, List.set_cons_succ]
          clear hK K
          refine wpAnyH_done (by kernel_rfl) ?_ _
          have H6 : Hid (w6.ownsRow q2 25 1 (.slice a12 (m + 2) k12) (m + 2) (((qls (Q.take i)).map fun f => f.2.1) ++ [.slice z0 n0 l0, .slice z1 n1' l1]) ∧ Below q2 w8 w6) := ⟨h6, hb6⟩
          clear h6 hb6 hap hrow hown1 hst1 hq2w hown st0 hwd y1 y2 hSq hRq hNq
          obtain ⟨L, hL⟩ : ∃ L, p.fs.length = L := ⟨_, rfl⟩
          rw [hL] at HX HLN HC3
          have HL : Hid (p.fs.length = L) := hL
          clear hL
          go_upto_region 18 with (fail)
          go_loopw [11, 13] (fun v11 v13 y => ∃ (k m2 : Nat) (a13 : Option Addr) (k13 : Nat), k ≤ L ∧ v13 = .int .i64 k ∧ v11 = .slice a13 m2 k13 ∧ m2 = m + 2 + k ∧ Below q2 w8 y ∧ y.ownsRow q2 25 1 (.slice a13 m2 k13) m2 (((qls (Q.take i)).map fun f => f.2.1) ++ [.slice z0 n0 l0, .slice z1 n1' l1] ++ (p.fs.take k).map fun f => f.2.1)) (fun _ v _ => L - (intOf v).toNat)
          case atStart => exact ⟨0, m + 2, a12, k12, Nat.zero_le _, rfl, rfl, rfl, H6.out.2, by simpa using H6.out.1⟩
          case round =>
            obtain ⟨k, m2, a13, k13, hk, rfl, rfl, hm2, hb13, hown⟩ := hrel
            have c3 := HC3.out wr hb13
            have bk0 : (0 : Int) ≤ (k : Int) := by omega
            have bk1 : (k : Int) ≤ 24 := by have := HX.out.2.2.1; omega
            by_cases hkl : k < L
            · have b2 : (k : Int) < (L : Int) := by omega
              have hmemf : p.fs.getD k (0, undef, []) ∈ p.fs := by simp [List.getD, (by rw [HL.out]; exact hkl : k < p.fs.length)]
              obtain ⟨zk, lk, hvk⟩ := own_slice' (HSB.out.sa.ow (p.fs.getD k (0, undef, [])) (HX.out.2.2.2 _ (List.mem_cons_of_mem _ (List.mem_cons_of_mem _ hmemf))))
              have ck : wr.cell? ⟨gl, ol + k * 2 + 1, none⟩ = some (p.fs.getD k (0, undef, [])).2.1 := by
                have := HLN.out.1
                refine cell_below (w := w8) (by rw [HQ2.out]; exact hb13) ?_
                rw [cell_of_row _ _ _ _ _ _ this]
                exact HLN.out.2 k hkl
              rw [hvk] at ck
              obtain ⟨nk, hnk⟩ : ∃ nk, (p.fs.getD k (0, undef, [])).2.2.length = nk := ⟨_, rfl⟩
              rw [hnk] at ck hvk
              have HVK : Hid ((p.fs.getD k (0, undef, [])).2.1 = .slice zk nk lk) := hvk
              have hq2w : q2 ≤ wr.heap.size := by have := hb13.size; have := HQ2.out; omega
              have hst1 : Below q2 w8 (wr.alloc (.cells #[.slice zk nk lk] 25)) := hb13.alloc hq2w _
              have hown1 := hown.alloc (.cells #[.slice zk nk lk] 25)
              have hrow : (wr.alloc (.cells #[.slice zk nk lk] 25)).heap[wr.heap.size]? = some (.cells [Value.slice zk nk lk].toArray 25 (0, 0)) := heap_alloc_new _ _
              have HAP : Hid _ := own_appK (m := 1) Tryd.underlying34 parts_ints rfl hown1 hrow rfl (fun u hu => by simp at hu; subst hu; rfl) (by have := HR.out.2.2.1; have := HX.out.2.1; have := HX.out.2.2.1; have := HN3.out; omega) (by have := HR.out.2.2.1; have := HX.out.2.1; have := HX.out.2.2.1; have := HN3.out; omega) (by rw [size_alloc]; omega)
              have HST : Hid (_ ∧ _ ∧ _) := ⟨hst1, hown1, hq2w⟩
              have HKL : Hid (k < L ∧ m2 = m + 2 + k) := ⟨hkl, hm2⟩
              clear hkl hk hm2 hb13 hown hmemf hvk hnk hq2w hst1 hown1 hrow
              go_wp2_with (at_builtin; go_loud (refine wpList_app _ rfl (.tmp 98) (.tmp 108) 34 34 rfl _ _ rfl rfl HAP.out ?_; rintro v' w7 ⟨h1, h2, h3⟩; obtain ⟨a14, k14, hv14⟩ := own_slice' h1; subst hv14; have H7 : Hid (_ ∧ _) := ⟨h1, app_below HST.out.1 (by rw [size_alloc]; have := HST.out.2.2; omega) HST.out.2.1 h2⟩; clear h1 h2 h3))
              refine ⟨⟨k + 1, m2 + 1, a14, k14, HKL.out.1, congrArg (Value.int .i64) (Int.natCast_succ k).symm, rfl, by have := HKL.out.2; omega, H7.out.2, ?_⟩, by have := HKL.out.1; show L - ((k : Int) + 1).toNat < L - ((k : Int)).toNat; omega⟩
              have ht : p.fs.take (k + 1) = p.fs.take k ++ [p.fs.getD k (0, undef, [])] := by
                have hkl : k < p.fs.length := by rw [HL.out]; exact HKL.out.1
                rw [List.take_add_one, List.getElem?_eq_getElem hkl]
                simp [List.getD, hkl]
              rw [ht, List.map_append, ← List.append_assoc]
              have h7 := H7.out.1
              simp only [List.map_cons, List.map_nil, HVK.out]
              exact h7
            · have b2 : ¬ (k : Int) < (L : Int) := by omega
              obtain rfl : k = L := by omega
              have br : (r : Int) ≤ 72 := by have := HR.out.1; have := HX.out.2.1; have := HN3.out; omega
              have br0 : (0 : Int) ≤ (r : Int) := by omega
              have htk : p.fs.take k = p.fs := List.take_of_length_le (by rw [HL.out]; exact Nat.le_refl _)
              rw [htk] at hown
              have hll := HLL.out i _ HX.out.1
              have hmap : (qls (Q.take (i + 1))).map (fun f => f.2.1) = ((qls (Q.take i)).map fun f => f.2.1) ++ [.slice z0 n0 l0, .slice z1 n1' l1] ++ p.fs.map fun f => f.2.1 := by
                rw [hll]
                simp [lsts, HV.out.1, HV.out.2]
              rw [← hmap] at hown
              have hlen : (qls (Q.take (i + 1))).length = m2 := by
                rw [hll, List.length_append, HR.out.2.1, hm2]
                simp [lsts, HL.out]
                omega
              have H9 : Hid (_ ∧ _ ∧ _ ∧ m2 = m + 2 + k) := ⟨hown, hlen, hb13, hm2⟩
              clear hkl hk hm2 hb13 hown hlen hmap hll htk
              go_wp2
              exact ⟨⟨i + 1, r + k, m2, a13, k13, HX.out.2.1, congrArg (Value.int .i64) (Int.natCast_succ i).symm, congrArg (Value.int .i64) (Int.natCast_add r k).symm, by have := HR.out.1; have := HX.out.2.2.1; omega, rfl, H9.out.2.1, by have := H9.out.2.2.2; have := HR.out.2.2.1; have := HX.out.2.2.1; omega, H9.out.2.2.1, H9.out.1⟩, by have := HX.out.2.1; show n - ((i : Int) + 1).toNat < n - ((i : Int)).toNat; omega⟩
        · have b1 : ¬ (i : Int) < (n : Int) := by omega
          obtain rfl : n = i := by omega
          have htk : Q.take n = Q := List.take_of_length_le (by rw [HNQ.out]; exact Nat.le_refl _)
          rw [htk] at hm hown
          clear hlt hi htk
          have HSC : Hid (SC q q2 W (.slice a6 n k6) (.slice a11 m k11) Q (qls Q) wr) := HSB.out.sa.sc HSB.out.old HSB.out.lt HQ2.out hbl (by rw [hm]; exact hown)
          have HGB : Hid ((qls Q).length = m ∧ m ≤ 78 ∧ ∀ f ∈ qls Q, f.2.2.length ≤ 24) := ⟨hm, by have := HN3.out; omega, fun f hf => by
            obtain ⟨x, hx, hfx⟩ := List.mem_flatMap.1 hf
            exact (HSB.out.sa.bd x hx).2 f hfx⟩
          obtain ⟨G, hG⟩ : ∃ G, qls Q = G := ⟨_, rfl⟩
          rw [hG] at HSC HGB
          have HG : Hid (qls Q = G) := hG
          clear hbl hown hm hr hm26 hG HLL
          go_upto_region 23 with (fail)
          clear b1
          go_loopw [14] (fun v14 y => ∃ i : Nat, i ≤ m ∧ v14 = .int .i64 i ∧ SC q q2 W (.slice a6 n k6) (.slice a11 m k11) Q (GA G i ++ G.drop i) y) (fun v _ => m - (intOf v).toNat)
          case atStart => exact ⟨0, Nat.zero_le _, rfl, by simpa [GA] using HSC.out⟩
          case round =>
            obtain ⟨i, hi, rfl, hsc⟩ := hrel
            have bi0 : (0 : Int) ≤ (i : Int) := by omega
            by_cases hlt : i < m
            · have b1 : (i : Int) < (m : Int) := by omega
              have bi : (i : Int) ≤ 78 := by have := HGB.out; omega
              have hil : i < G.length := by rw [HGB.out.1]; exact hlt
              obtain ⟨f, u, C, hf⟩ : ∃ f u C, G[i] = (f, u, C) := ⟨_, _, _, rfl⟩
              have hdr : G.drop i = (f, u, C) :: G.drop (i + 1) := by rw [List.drop_eq_getElem_cons hil, hf]
              rw [hdr] at hsc
              have hgi : G[i]? = some (f, u, C) := by rw [List.getElem?_eq_getElem hil, hf]
              have hC24 : C.length ≤ 24 := HGB.out.2.2 (f, u, C) (List.mem_of_getElem? hgi)
              have how := hsc.ow (f, u, C) (by simp)
              simp only at how
              obtain ⟨zu, lu, hu⟩ := own_slice' how
              subst hu
              have HSI : Hid (SC q q2 W (.slice a6 n k6) (.slice a11 m k11) Q (GA G i ++ (f, .slice zu C.length lu, C) :: G.drop (i + 1)) wr) := hsc
              have HI : Hid (i < m ∧ G[i]? = some (f, .slice zu C.length lu, C) ∧ C.length ≤ 24) := ⟨hlt, hgi, hC24⟩
              obtain ⟨Lc, hLc⟩ : ∃ Lc, C.length = Lc := ⟨_, rfl⟩
              have HLC : Hid (C.length = Lc) := hLc
              rw [hLc] at HSI HI
              clear hlt hi hsc hil hf hdr hgi hC24 how hLc
              go_upto_region 26 with (fail)
              go_loopw [15] (fun v15 y => ∃ k : Nat, k ≤ Lc ∧ v15 = .int .i64 k ∧ SC q q2 W (.slice a6 n k6) (.slice a11 m k11) Q (GA G i ++ (f, .slice zu Lc lu, List.replicate k (100 + (i : Int)) ++ C.drop k) :: G.drop (i + 1)) y) (fun v _ => Lc - (intOf v).toNat)
              case atStart => exact ⟨0, Nat.zero_le _, rfl, by simpa using HSI.out⟩
              case round =>
                obtain ⟨k, hk, rfl, hsc⟩ := hrel
                have hmi : (GA G i ++ (f, Value.slice zu Lc lu, List.replicate k (100 + (i : Int)) ++ C.drop k) :: G.drop (i + 1))[i]? = some (f, Value.slice zu Lc lu, List.replicate k (100 + (i : Int)) ++ C.drop k) := by
                  rw [List.getElem?_append_right (by simp [GA])]
                  simp [GA]
                obtain ⟨g11, ha11, c11⟩ := hsc.at hmi
                subst ha11
                simp only at c11
                have bk0 : (0 : Int) ≤ (k : Int) := by omega
                have bk1 : (k : Int) ≤ 24 := by have := HI.out; omega
                have hdl : (List.replicate k (100 + (i : Int)) ++ C.drop k).length = Lc := by have := HLC.out; simp; omega
                by_cases hkl : k < Lc
                · have b2 : (k : Int) < (Lc : Int) := by omega
                  have how := hsc.ow (f, .slice zu Lc lu, List.replicate k (100 + (i : Int)) ++ C.drop k) (by simp)
                  simp only [hdl] at how
                  obtain ⟨ov, hov⟩ : ∃ ov, ((List.replicate k (100 + (i : Int)) ++ C.drop k).map (Value.int .i64))[k]? = some ov := ⟨_, List.getElem?_eq_getElem (by rw [List.length_map, hdl]; exact hkl)⟩
                  obtain ⟨gu, hzu, _, hcu⟩ := (own_cell how).2 k ov hov
                  subst hzu
                  have hfr := how.frozenAt k
                  have hset := SC.set (A := GA G i) (B := G.drop (i + 1)) (f := f) (C := List.replicate k (100 + (i : Int)) ++ C.drop k) (g := gu) (cap := lu) (by rw [hdl]; exact hsc) k (100 + (i : Int))
                  rw [hdl, fill_set (by rw [HLC.out]; exact hkl)] at hset
                  have HSET : Hid _ := hset
                  have HKL : Hid (k < Lc) := hkl
                  clear hkl hk hsc hmi hdl how hset hov
                  go_wp2
                  exact ⟨⟨k + 1, HKL.out, congrArg (Value.int .i64) (Int.natCast_succ k).symm, HSET.out⟩, by have := HKL.out; show Lc - ((k : Int) + 1).toNat < Lc - ((k : Int)).toNat; omega⟩
                · have b2 : ¬ (k : Int) < (Lc : Int) := by omega
                  obtain rfl : k = Lc := by omega
                  have hG2 : GA G i ++ (f, Value.slice zu k lu, List.replicate k (100 + (i : Int)) ++ C.drop k) :: G.drop (i + 1) = GA G (i + 1) ++ G.drop (i + 1) := by
                    have hgd : G.getD i (0, undef, []) = (f, .slice zu k lu, C) := by simp [List.getD, HI.out.2.1]
                    rw [GA_succ, hgd]
                    have hd : C.drop k = [] := List.drop_eq_nil_of_le (by rw [HLC.out]; exact Nat.le_refl _)
                    simp [fl, HLC.out, hd]
                  rw [hG2] at hsc
                  have HSN : Hid _ := hsc
                  clear hkl hk hsc hmi hdl hG2
                  go_wp2
                  exact ⟨⟨i + 1, HI.out.1, congrArg (Value.int .i64) (Int.natCast_succ i).symm, HSN.out⟩, by have := HI.out.1; show m - ((i : Int) + 1).toNat < m - ((i : Int)).toNat; omega⟩
            · have b1 : ¬ (i : Int) < (m : Int) := by omega
              obtain rfl : m = i := by omega
              have hdn : G.drop m = [] := List.drop_eq_nil_of_le (by rw [HGB.out.1]; exact Nat.le_refl _)
              rw [hdn, List.append_nil] at hsc
              clear hlt hi hdn
              obtain ⟨F, hF⟩ : ∃ F, GA G m = F := ⟨_, rfl⟩
              have HF : Hid (F.length = m ∧ ∀ (t : Nat) (f : Lv), F[t]? = some f → f.2.2.length ≤ 24 ∧ f.2.2 = List.replicate f.2.2.length (100 + (t : Int))) := by
                rw [← hF]
                refine ⟨by simp [GA], fun t f hf => ?_⟩
                simp only [GA, List.getElem?_map, Option.map_eq_some_iff] at hf
                obtain ⟨t', ht', rfl⟩ := hf
                obtain ⟨htm, htt⟩ := List.getElem?_eq_some_iff.1 ht'
                rw [List.length_range] at htm
                rw [List.getElem_range] at htt
                subst htt
                have hlt : t < G.length := by rw [HGB.out.1]; exact htm
                have hm' : G.getD t (0, undef, []) ∈ G := by simp [List.getD, hlt]
                simp only [fl, List.length_replicate]
                exact ⟨HGB.out.2.2 _ hm', trivial⟩
              rw [hF] at hsc
              have HSC2 : Hid (SC q q2 W (.slice a6 n k6) (.slice a11 m k11) Q F wr) := hsc
              have HMV : Hid (MV (q + 1) 3 1 wr.heap.size wr (UF F) nwI 25 (.slice none 0 0) [] wr) := hsc.mv (by have := hsc.sz; have := HSB.out.lt; have := HQ2.out; omega)
              have HM : Hid (m ≤ 78) := HGB.out.2.1
              obtain ⟨wD, hwD⟩ : ∃ wD, wr = wD := ⟨_, rfl⟩
              rw [hwD] at HSC2 HMV ⊢
              clear hsc hF hwD HSC HGB HG
              go_upto_region 31 with (fail)
              clear b1
              go_loopw [16, 17] (fun v16 v17 y => ∃ (i : Nat) (Y : List Value) (a16 : Option Addr) (k16 : Nat), i ≤ m ∧ v17 = .int .i64 i ∧ v16 = .slice a16 i k16 ∧ Y.length = i ∧ MV (q + 1) 3 1 wD.heap.size wD (UF F) nwI 25 (.slice a16 i k16) Y y) (fun _ v _ => m - (intOf v).toNat)
              case atStart => exact ⟨0, [], none, 0, Nat.zero_le _, rfl, rfl, rfl, HMV.out⟩
              case round =>
                obtain ⟨i, Y, a16, k16, hi, rfl, rfl, hY, hmv⟩ := hrel
                have bi0 : (0 : Int) ≤ (i : Int) := by omega
                by_cases hlt : i < m
                · have b1 : (i : Int) < (m : Int) := by omega
                  have bi : (i : Int) ≤ 78 := by have := HM.out; omega
                  have hil : i < F.length := by rw [HF.out.1]; exact hlt
                  obtain ⟨f, u, C, hf⟩ : ∃ f u C, F[i] = (f, u, C) := ⟨_, _, _, rfl⟩
                  have hfi : F[i]? = some (f, u, C) := by rw [List.getElem?_eq_getElem hil, hf]
                  obtain ⟨g11, ha11, c11⟩ := hmv.at11 HSC2.out hfi
                  subst ha11
                  simp only at c11
                  have hui := UF_at hfi
                  simp only at hui
                  have hlr := hmv.lr hui
                  simp only at hlr
                  obtain ⟨zu, lu, hu⟩ := hlr.hu.sl
                  subst hu
                  have hC24 := (HF.out.2 i _ hfi).1
                  simp only at hC24
                  obtain ⟨Lc, hLc⟩ : ∃ Lc, C.length = Lc := ⟨_, rfl⟩
                  rw [hLc] at c11 hui hlr hC24
                  have HMI : Hid (MV (q + 1) 3 1 wD.heap.size wD (UF F) nwI 25 (.slice a16 i k16) Y wr) := hmv
                  have HI : Hid (i < m ∧ (UF F)[i]? = some (.slice zu Lc lu, Lc, C.map (Value.int .i64)) ∧ Lc ≤ 24 ∧ Y.length = i) := ⟨hlt, hui, hC24, hY⟩
                  have HLR : Hid _ := hlr
                  clear hlt hi hil hf hfi hui hlr hC24 hLc hmv hY
                  go_upto_region 35 with (fail)
                  obtain ⟨wi, hwi⟩ : ∃ wi, wr = wi := ⟨_, rfl⟩
                  rw [hwi] at HMI HLR ⊢
                  clear hwi c11
                  go_loopw [18, 19] (fun v18 v19 y => ∃ (j n2 : Nat) (a18 : Option Addr) (k18 : Nat), j ≤ 9 ∧ n2 = Lc + j ∧ v19 = .int .i64 j ∧ v18 = .slice a18 n2 k18 ∧ LR (q + 1) 3 1 wi (.slice zu Lc lu) Lc (C.map (Value.int .i64)) (.slice a18 n2 k18) j (rp j [.int .i64 (100 + (i : Int))]) y) (fun _ v _ => 9 - (intOf v).toNat)
                  case atStart => exact ⟨0, Lc, zu, lu, Nat.zero_le _, rfl, rfl, rfl, HLR.out⟩
                  case round =>
                    obtain ⟨j, n2, a18, k18, hj, hn2, rfl, rfl, hl⟩ := hrel
                    have bj0 : (0 : Int) ≤ (j : Int) := by omega
                    by_cases hj9 : j < 9
                    · have b2 : (j : Int) < 9 := by omega
                      have HAP : Hid _ := hl.int HI.out.2.2.1 hj9
                      have HJ : Hid (j < 9 ∧ n2 = Lc + j) := ⟨hj9, hn2⟩
                      clear hj9 hj hn2 hl
                      go_wp2_with (at_builtin; go_loud (refine wpList_app _ rfl (.tmp 155) (.tmp 158) 25 25 rfl _ _ rfl rfl HAP.out ?_; rintro v' w7 h1; obtain ⟨a19, k19, hv19⟩ := h1.hl.sl; subst hv19; have H7 : Hid _ := h1; clear h1))
                      exact ⟨⟨j + 1, Lc + (j + 1), a19, k19, HJ.out.1, rfl, congrArg (Value.int .i64) (Int.natCast_succ j).symm, rfl, H7.out⟩, by have := HJ.out.1; show 9 - ((j : Int) + 1).toNat < 9 - ((j : Int)).toNat; omega⟩
                    · have b2 : ¬ (j : Int) < 9 := by omega
                      obtain rfl : j = 9 := by omega
                      have HAP : Hid _ := HMI.out.row Tryd.underlying34 parts_ints (by decide) HI.out.2.1 HI.out.2.2.2 (by have := HI.out.1; have := HM.out; omega) hl
                      clear hj9 hj hn2 hl
                      go_wp2_with (at_builtin; go_loud (refine wpList_app _ rfl (.tmp 160) (.tmp 162) 34 34 rfl _ _ rfl rfl HAP.out ?_; rintro v' w7 ⟨h1, a17, k17, rfl⟩; have H7 : Hid _ := h1; clear h1))
                      exact ⟨⟨i + 1, _, a17, k17, HI.out.1, congrArg (Value.int .i64) (Int.natCast_succ i).symm, rfl, by rw [List.length_append, HI.out.2.2.2]; rfl, H7.out⟩, by have := HI.out.1; show m - ((i : Int) + 1).toNat < m - ((i : Int)).toNat; omega⟩
                · have b1 : ¬ (i : Int) < (m : Int) := by omega
                  obtain rfl : m = i := by omega
                  obtain ⟨wE, hwE⟩ : ∃ wE, wr = wE := ⟨_, rfl⟩
                  rw [hwE] at hmv ⊢
                  have HME : Hid (MV (q + 1) 3 1 wD.heap.size wD (UF F) nwI 25 (.slice a16 m k16) Y wE ∧ Y.length = m) := ⟨hmv, hY⟩
                  clear hlt hi hmv hY hwE HMV
                  go_upto_region 40 with (fail)
                  clear b1
                  go_loopw [20] (fun v20 y => ∃ i : Nat, i ≤ m ∧ v20 = .int .i64 i ∧ y = wE) (fun v _ => m - (intOf v).toNat)
                  case atStart => exact ⟨0, Nat.zero_le _, rfl, rfl⟩
                  case round =>
                    obtain ⟨i, hi, rfl, hwr⟩ := hrel
                    rw [hwr]
                    clear hwr
                    have bi0 : (0 : Int) ≤ (i : Int) := by omega
                    by_cases hlt : i < m
                    · have b1 : (i : Int) < (m : Int) := by omega
                      have bi : (i : Int) ≤ 78 := by have := HM.out; omega
                      obtain ⟨g16, g11, gy, oy, ny, cy, zu, Lc, lu, ha16, ha11, hny, h24, c16, c11, hcy, hcu⟩ := HME.out.1.rd HSC2.out HME.out.2 HF.out hlt
                      subst ha16 ha11
                      have HCY : Hid (∀ k, k < ny → wE.cell? ⟨gy, oy + k, none⟩ = some (.int .i64 (100 + (i : Int)))) := hcy
                      have HCU : Hid (∀ k, k < Lc → ∃ gu ou, zu = some ⟨gu, ou, none⟩ ∧ wE.cell? ⟨gu, ou + k, none⟩ = some (.int .i64 (100 + (i : Int)))) := hcu
                      have HI : Hid (i < m ∧ ny = Lc + 9 ∧ Lc ≤ 24) := ⟨hlt, hny, h24⟩
                      clear hlt hi hny h24 hcy hcu
                      go_upto_region 43 with (fail)
                      go_loopw [21] (fun v21 y => ∃ k : Nat, k ≤ ny ∧ v21 = .int .i64 k ∧ y = wE) (fun v _ => ny - (intOf v).toNat)
                      case atStart => exact ⟨0, Nat.zero_le _, rfl, rfl⟩
                      case round =>
                        obtain ⟨k, hk, rfl, hwr⟩ := hrel
                        rw [hwr]
                        clear hwr
                        have bk0 : (0 : Int) ≤ (k : Int) := by omega
                        have bk1 : (k : Int) ≤ 33 := by have := HI.out; omega
                        by_cases hkl : k < ny
                        · have b2 : (k : Int) < (ny : Int) := by omega
                          have cyk := HCY.out k hkl
                          have HKL : Hid (k < ny) := hkl
                          by_cases hku : k < Lc
                          · have b3 : (k : Int) < (Lc : Int) := by omega
                            obtain ⟨gu, ou, hzu, cuk⟩ := HCU.out k hku
                            subst hzu
                            clear hku hkl hk
                            go_wp2
                            exact ⟨⟨k + 1, HKL.out, congrArg (Value.int .i64) (Int.natCast_succ k).symm, trivial⟩, by have := HKL.out; show ny - ((k : Int) + 1).toNat < ny - ((k : Int)).toNat; omega⟩
                          · have b3 : ¬ (k : Int) < (Lc : Int) := by omega
                            clear hku hkl hk
                            go_wp2
                            exact ⟨⟨k + 1, HKL.out, congrArg (Value.int .i64) (Int.natCast_succ k).symm, trivial⟩, by have := HKL.out; show ny - ((k : Int) + 1).toNat < ny - ((k : Int)).toNat; omega⟩
                        · have b2 : ¬ (k : Int) < (ny : Int) := by omega
                          clear hkl hk
                          go_wp2
                          exact ⟨⟨i + 1, HI.out.1, congrArg (Value.int .i64) (Int.natCast_succ i).symm, trivial⟩, by have := HI.out.1; show m - ((i : Int) + 1).toNat < m - ((i : Int)).toNat; omega⟩
                    · have b1 : ¬ (i : Int) < (m : Int) := by omega
                      obtain rfl : m = i := by omega
                      clear hlt hi
                      obtain ⟨K0, hse⟩ := HME.out.1.se HSC2.out (fun x hx => (HSB.out.sa.bd x hx).1)
                      have HSE : Hid (SE q W (.slice a6 n k6) Q K0 wE) := hse
                      clear hse HME HSC2 HF
                      go_upto_region 48 with (fail)
                      clear b1
                      go_loopw [22] (fun v22 y => ∃ (i : Nat) (K : List (List Value)), i ≤ n ∧ v22 = .int .i64 i ∧ SE q W (.slice a6 n k6) Q K y ∧ ∀ (t : Nat) x c, t < i → Q[t]? = some x → K[t]? = some c → c = rp x.1.fs.length (lv t)) (fun v _ => n - (intOf v).toNat)
                      case atStart => exact ⟨0, K0, Nat.zero_le _, rfl, HSE.out, fun t x c ht => absurd ht (Nat.not_lt_zero _)⟩
                      case round =>
                        obtain ⟨i, K, hi, rfl, hse, hdn⟩ := hrel
                        have bi0 : (0 : Int) ≤ (i : Int) := by omega
                        by_cases hlt : i < n
                        · have b1 : (i : Int) < (n : Int) := by omega
                          have bi : (i : Int) ≤ 3 := by have := HN3.out; omega
                          have hiQ : i < Q.length := by rw [HNQ.out]; exact hlt
                          obtain ⟨x, hx⟩ : ∃ x, Q[i]? = some x := ⟨_, List.getElem?_eq_getElem hiQ⟩
                          obtain ⟨c0, hc0⟩ : ∃ c, K[i]? = some c := ⟨_, List.getElem?_eq_getElem (by rw [hse.kl]; exact hiQ)⟩
                          obtain ⟨g6, ha6, _⟩ := hse.at6 hx
                          obtain ⟨gl, ol, cl, hvl⟩ : ∃ gl ol cl, x.1.vl = .slice (some ⟨gl, ol, none⟩) x.1.fs.length cl := by
                            have hb := (hse.bk x (List.mem_of_getElem? hx)).1
                            rcases (hse.ln i x c0 hx hc0).2 with ⟨e, _⟩ | ⟨g, o, cap, cur, e, _⟩
                            · rw [e] at hb; cases hb
                            · exact ⟨g, o, cap, e⟩
                          have h24 := (hse.bk x (List.mem_of_getElem? hx)).2.2
                          obtain ⟨L, hL⟩ : ∃ L, x.1.fs.length = L := ⟨_, rfl⟩
                          have HVL : Hid (x.1.vl = .slice (some ⟨gl, ol, none⟩) L cl ∧ x.1.fs.length = L) := ⟨by rw [hvl, hL], hL⟩
                          have HI : Hid (i < n ∧ Q[i]? = some x ∧ L ≤ 24 ∧ i < Q.length) := ⟨hlt, hx, by rw [← hL]; exact h24, hiQ⟩
                          have HS0 : Hid (SE q W (.slice a6 n k6) Q K wr ∧ K[i]? = some c0 ∧ ∀ (t : Nat) x c, t < i → Q[t]? = some x → K[t]? = some c → c = rp x.1.fs.length (lv t)) := ⟨hse, hc0, hdn⟩
                          subst ha6
                          clear hlt hi hse hdn hiQ hx hc0 hvl h24 hL
                          go_upto_region 51 with (fail)
                          go_loopw [23] (fun v23 y => ∃ (k : Nat) (K : List (List Value)) (c : List Value), k ≤ L ∧ v23 = .int .i64 k ∧ SE q W (.slice (some ⟨g6, 0, none⟩) n k6) Q K y ∧ K[i]? = some c ∧ c.take (k * 2) = rp k (lv i) ∧ ∀ (t : Nat) x c, t < i → Q[t]? = some x → K[t]? = some c → c = rp x.1.fs.length (lv t)) (fun v _ => L - (intOf v).toNat)
                          case atStart => exact ⟨0, K, c0, Nat.zero_le _, rfl, HS0.out.1, HS0.out.2.1, rfl, HS0.out.2.2⟩
                          case round =>
                            obtain ⟨k, K, c, hk, rfl, hse, hc, htk, hdn⟩ := hrel
                            obtain ⟨g6', e6, c6⟩ := hse.at6 HI.out.2.1
                            injection e6 with e6
                            injection e6 with e6
                            subst e6
                            rw [HVL.out.1] at c6
                            have ho := hse.ln i x c HI.out.2.1 hc
                            rw [HVL.out.1, HVL.out.2] at ho
                            have hcl : c.length = L * 2 := ho.1
                            have bk0 : (0 : Int) ≤ (k : Int) := by omega
                            have bk1 : (k : Int) ≤ 24 := by have := HI.out; omega
                            by_cases hkl : k < L
                            · have b2 : (k : Int) < (L : Int) := by omega
                              obtain ⟨ov0, hov0⟩ : ∃ v, c[k * 2]? = some v := ⟨_, List.getElem?_eq_getElem (by omega : k * 2 < c.length)⟩
                              obtain ⟨ov1, hov1⟩ : ∃ v, c[k * 2 + 1]? = some v := ⟨_, List.getElem?_eq_getElem (by omega : k * 2 + 1 < c.length)⟩
                              obtain ⟨_, g', o', e', y0, z0⟩ := ho.cell hov0
                              injection e' with e'
                              injection e' with e1 e2
                              subst e1 e2
                              obtain ⟨_, g', o', e', y1, z1⟩ := ho.cell hov1
                              injection e' with e'
                              injection e' with e1 e2
                              subst e1 e2
                              rw [← Nat.add_assoc] at y1 z1
                              have hKi : i < K.length := (List.getElem?_eq_some_iff.1 hc).1
                              have hs1 := hse.set1 HI.out.2.1 hc (by rw [HVL.out.1, HVL.out.2]) (k * 2) (.int .i64 (50 + (i : Int)))
                              have hs2 := hs1.set1 HI.out.2.1 (List.getElem?_set_self hKi) (by rw [HVL.out.1, HVL.out.2]) (k * 2 + 1) (.slice none 0 0)
                              rw [← Nat.add_assoc] at hs2
                              have HSET : Hid _ := hs2
                              have HKL : Hid (k < L ∧ c.length = L * 2 ∧ i < K.length ∧ c.take (k * 2) = rp k (lv i) ∧ ∀ (t : Nat) x c, t < i → Q[t]? = some x → K[t]? = some c → c = rp x.1.fs.length (lv t)) := ⟨hkl, hcl, hKi, htk, hdn⟩
                              clear hkl hk hse hc htk hdn hcl ho hKi hs1 hs2 hov0 hov1
                              go_wp2
                              refine ⟨⟨k + 1, _, (c.set (k * 2) (.int .i64 (50 + (i : Int)))).set (k * 2 + 1) (.slice none 0 0), HKL.out.1, congrArg (Value.int .i64) (Int.natCast_succ k).symm, HSET.out, ?_, ?_, ?_⟩, by have := HKL.out.1; show L - ((k : Int) + 1).toNat < L - ((k : Int)).toNat; omega⟩
                              · rw [List.set_set, List.getElem?_set_self HKL.out.2.2.1]
                              · rw [take2 _ _ (by have := HKL.out; omega), HKL.out.2.2.2.1, rp_succ]; rfl
                              · intro t x' c' ht hx' hc'
                                rw [List.set_set, List.getElem?_set_ne (by omega)] at hc'
                                exact HKL.out.2.2.2.2 t x' c' ht hx' hc'
                            · have b2 : ¬ (k : Int) < (L : Int) := by omega
                              obtain rfl : k = L := by omega
                              have HSN : Hid _ := hse
                              have HDN : Hid (∀ (t : Nat) x c, t < i + 1 → Q[t]? = some x → K[t]? = some c → c = rp x.1.fs.length (lv t)) := fun t x' c' ht hx' hc' => by
                                by_cases hti : t = i
                                · subst hti
                                  rw [HI.out.2.1] at hx'
                                  injection hx' with hx'
                                  subst hx'
                                  rw [hc] at hc'
                                  injection hc' with hc'
                                  subst hc'
                                  rw [HVL.out.2, ← htk, List.take_of_length_le (by omega)]
                                · exact hdn t x' c' (by omega) hx' hc'
                              clear hkl hk hse hc htk hdn hcl ho
                              go_wp2
                              exact ⟨⟨i + 1, K, HI.out.1, congrArg (Value.int .i64) (Int.natCast_succ i).symm, HSN.out, HDN.out⟩, by have := HI.out.1; show n - ((i : Int) + 1).toNat < n - ((i : Int)).toNat; omega⟩
                        · have b1 : ¬ (i : Int) < (n : Int) := by omega
                          obtain rfl : n = i := by omega
                          have HDK : Hid (∀ (t : Nat) x c, Q[t]? = some x → K[t]? = some c → c = rp x.1.fs.length (lv t)) := fun t x c hx hc => hdn t x c (by rw [← HNQ.out]; exact (List.getElem?_eq_some_iff.1 hx).1) hx hc
                          obtain ⟨wG, hwG⟩ : ∃ wG, wr = wG := ⟨_, rfl⟩
                          rw [hwG] at hse ⊢
                          have HSG : Hid (SE q W (.slice a6 n k6) Q K wG) := hse
                          have HMG : Hid (MV (q + 1) 36 2 wG.heap.size wG (UL Q) nwL 27 (.slice none 0 0) [] wG) := hse.mv HDK.out
                          clear hlt hi hdn hse hwG HSE
                          go_upto_region 56 with (fail)
                          clear b1
                          go_loopw [24, 25] (fun v24 v25 y => ∃ (i : Nat) (Y : List Value) (a24 : Option Addr) (k24 : Nat), i ≤ n ∧ v25 = .int .i64 i ∧ v24 = .slice a24 i k24 ∧ Y.length = i ∧ MV (q + 1) 36 2 wG.heap.size wG (UL Q) nwL 27 (.slice a24 i k24) Y y) (fun _ v _ => n - (intOf v).toNat)
                          case atStart => exact ⟨0, [], none, 0, Nat.zero_le _, rfl, rfl, rfl, HMG.out⟩
                          case round =>
                            obtain ⟨i, Y, a24, k24, hi, rfl, rfl, hY, hmv⟩ := hrel
                            have bi0 : (0 : Int) ≤ (i : Int) := by omega
                            by_cases hlt : i < n
                            · have b1 : (i : Int) < (n : Int) := by omega
                              have bi : (i : Int) ≤ 3 := by have := HN3.out; omega
                              have hiQ : i < Q.length := by rw [HNQ.out]; exact hlt
                              obtain ⟨x, hx⟩ : ∃ x, Q[i]? = some x := ⟨_, List.getElem?_eq_getElem hiQ⟩
                              obtain ⟨g6, ha6, c6⟩ := hmv.at6 HSG.out HDK.out hx
                              have hui := UL_at hx
                              have hlr := hmv.lr hui
                              simp only at hlr
                              obtain ⟨zu, lu, hu⟩ := hlr.hu.sl
                              have h24 := (HSG.out.bk x (List.mem_of_getElem? hx)).2.2
                              obtain ⟨L, hL⟩ : ∃ L, x.1.fs.length = L := ⟨_, rfl⟩
                              rw [hL] at hu hui hlr h24
                              rw [hu] at hui hlr c6
                              have HMI : Hid (MV (q + 1) 36 2 wG.heap.size wG (UL Q) nwL 27 (.slice a24 i k24) Y wr) := hmv
                              have HI : Hid (i < n ∧ (UL Q)[i]? = some (.slice zu L lu, L, rp L (lv i)) ∧ L ≤ 24 ∧ Y.length = i) := ⟨hlt, hui, h24, hY⟩
                              have HLR : Hid _ := hlr
                              subst ha6
                              clear hlt hi hmv hiQ hx hui hlr hu h24 hL hY
                              go_upto_region 60 with (fail)
                              obtain ⟨wi, hwi⟩ : ∃ wi, wr = wi := ⟨_, rfl⟩
                              rw [hwi] at HMI HLR ⊢
                              clear hwi c6
                              go_loopw [26, 27] (fun v26 v27 y => ∃ (j n2 : Nat) (a26 : Option Addr) (k26 : Nat), j ≤ 9 ∧ n2 = L + j ∧ v27 = .int .i64 j ∧ v26 = .slice a26 n2 k26 ∧ LR (q + 1) 36 2 wi (.slice zu L lu) L (rp L (lv i)) (.slice a26 n2 k26) j (rp j (lv i)) y) (fun _ v _ => 9 - (intOf v).toNat)
                              case atStart => exact ⟨0, L, zu, lu, Nat.zero_le _, rfl, rfl, rfl, HLR.out⟩
                              case round =>
                                obtain ⟨j, n2, a26, k26, hj, hn2, rfl, rfl, hl⟩ := hrel
                                have bj0 : (0 : Int) ≤ (j : Int) := by omega
                                by_cases hj9 : j < 9
                                · have b2 : (j : Int) < 9 := by omega
                                  have HAP : Hid _ := hl.line HI.out.2.2.1 hj9
                                  have HJ : Hid (j < 9 ∧ n2 = L + j) := ⟨hj9, hn2⟩
                                  clear hj9 hj hn2 hl
                                  go_wp2_with (at_builtin; go_loud (refine wpList_app _ rfl (.tmp 251) (.tmp 255) 27 27 rfl _ _ rfl rfl HAP.out ?_; rintro v' w7 h1; obtain ⟨a27, k27, hv27⟩ := h1.hl.sl; subst hv27; have H7 : Hid _ := h1; clear h1))
                                  exact ⟨⟨j + 1, L + (j + 1), a27, k27, HJ.out.1, rfl, congrArg (Value.int .i64) (Int.natCast_succ j).symm, rfl, H7.out⟩, by have := HJ.out.1; show 9 - ((j : Int) + 1).toNat < 9 - ((j : Int)).toNat; omega⟩
                                · have b2 : ¬ (j : Int) < 9 := by omega
                                  obtain rfl : j = 9 := by omega
                                  have HAP : Hid _ := HMI.out.row Tryd.underlying37 parts_lines (by decide) HI.out.2.1 HI.out.2.2.2 (by have := HI.out.1; have := HN3.out; omega) hl
                                  clear hj9 hj hn2 hl
                                  go_wp2_with (at_builtin; go_loud (refine wpList_app _ rfl (.tmp 257) (.tmp 259) 37 37 rfl _ _ rfl rfl HAP.out ?_; rintro v' w7 ⟨h1, a25, k25, rfl⟩; have H7 : Hid _ := h1; clear h1))
                                  exact ⟨⟨i + 1, _, a25, k25, HI.out.1, congrArg (Value.int .i64) (Int.natCast_succ i).symm, rfl, by rw [List.length_append, HI.out.2.2.2]; rfl, H7.out⟩, by have := HI.out.1; show n - ((i : Int) + 1).toNat < n - ((i : Int)).toNat; omega⟩
                            · have b1 : ¬ (i : Int) < (n : Int) := by omega
                              obtain rfl : n = i := by omega
                              obtain ⟨wH, hwH⟩ : ∃ wH, wr = wH := ⟨_, rfl⟩
                              rw [hwH] at hmv ⊢
                              have HMH : Hid (MV (q + 1) 36 2 wG.heap.size wG (UL Q) nwL 27 (.slice a24 n k24) Y wH ∧ Y.length = n) := ⟨hmv, hY⟩
                              clear hlt hi hmv hY hwH HMG
                              go_upto_region 65 with (fail)
                              clear b1
                              go_loopw [28] (fun v28 y => ∃ i : Nat, i ≤ n ∧ v28 = .int .i64 i ∧ y = wH) (fun v _ => n - (intOf v).toNat)
                              case atStart => exact ⟨0, Nat.zero_le _, rfl, rfl⟩
                              case round =>
                                obtain ⟨i, hi, rfl, hwr⟩ := hrel
                                rw [hwr]
                                clear hwr
                                have bi0 : (0 : Int) ≤ (i : Int) := by omega
                                by_cases hlt : i < n
                                · have b1 : (i : Int) < (n : Int) := by omega
                                  have bi : (i : Int) ≤ 3 := by have := HN3.out; omega
                                  have hiQ : i < Q.length := by rw [HNQ.out]; exact hlt
                                  obtain ⟨x, hx⟩ : ∃ x, Q[i]? = some x := ⟨_, List.getElem?_eq_getElem hiQ⟩
                                  obtain ⟨g24, g6, gy, oy, ny, cy, zu, L, lu, ha24, ha6, hny, h24, c24, c6, hcy, hcu⟩ := HMH.out.1.rdL HSG.out HDK.out HMH.out.2 hx hlt
                                  subst ha24 ha6
                                  have HCY : Hid (∀ k, k < ny → wH.cell? ⟨gy, oy + k * 2, none⟩ = some (.int .i64 (50 + (i : Int)))) := hcy
                                  have HCU : Hid (∀ k, k < L → ∃ gu ou, zu = some ⟨gu, ou, none⟩ ∧ wH.cell? ⟨gu, ou + k * 2, none⟩ = some (.int .i64 (50 + (i : Int)))) := hcu
                                  have HI : Hid (i < n ∧ ny = L + 9 ∧ L ≤ 24) := ⟨hlt, hny, h24⟩
                                  clear hlt hi hny h24 hcy hcu hx hiQ
                                  go_upto_region 68 with (fail)
                                  go_loopw [29] (fun v29 y => ∃ k : Nat, k ≤ ny ∧ v29 = .int .i64 k ∧ y = wH) (fun v _ => ny - (intOf v).toNat)
                                  case atStart => exact ⟨0, Nat.zero_le _, rfl, rfl⟩
                                  case round =>
                                    obtain ⟨k, hk, rfl, hwr⟩ := hrel
                                    rw [hwr]
                                    clear hwr
                                    have bk0 : (0 : Int) ≤ (k : Int) := by omega
                                    have bk1 : (k : Int) ≤ 33 := by have := HI.out; omega
                                    by_cases hkl : k < ny
                                    · have b2 : (k : Int) < (ny : Int) := by omega
                                      have cyk := HCY.out k hkl
                                      have HKL : Hid (k < ny) := hkl
                                      by_cases hku : k < L
                                      · have b3 : (k : Int) < (L : Int) := by omega
                                        obtain ⟨gu, ou, hzu, cuk⟩ := HCU.out k hku
                                        subst hzu
                                        clear hku hkl hk
                                        go_wp2
                                        exact ⟨⟨k + 1, HKL.out, congrArg (Value.int .i64) (Int.natCast_succ k).symm, trivial⟩, by have := HKL.out; show ny - ((k : Int) + 1).toNat < ny - ((k : Int)).toNat; omega⟩
                                      · have b3 : ¬ (k : Int) < (L : Int) := by omega
                                        clear hku hkl hk
                                        go_wp2
                                        exact ⟨⟨k + 1, HKL.out, congrArg (Value.int .i64) (Int.natCast_succ k).symm, trivial⟩, by have := HKL.out; show ny - ((k : Int) + 1).toNat < ny - ((k : Int)).toNat; omega⟩
                                    · have b2 : ¬ (k : Int) < (ny : Int) := by omega
                                      clear hkl hk
                                      go_wp2
                                      exact ⟨⟨i + 1, HI.out.1, congrArg (Value.int .i64) (Int.natCast_succ i).symm, trivial⟩, by have := HI.out.1; show n - ((i : Int) + 1).toNat < n - ((i : Int)).toNat; omega⟩
                                · have b1 : ¬ (i : Int) < (n : Int) := by omega
                                  obtain rfl : n = i := by omega
                                  have hBH : Below q W wH := HSG.out.old.trans (HMH.out.1.bl.mono (Nat.le_succ q))
                                  have hqH : q ≤ wH.heap.size := Nat.le_trans (Nat.le_of_lt HSG.out.sz) HMH.out.1.bl.size
                                  have CW := awake_any wH (HE.out wH hBH)
                                  have HBH : Hid (Below q W wH ∧ q ≤ wH.heap.size) := ⟨hBH, hqH⟩
                                  clear hlt hi hBH hqH
                                  go_wp2_with (go_at_call 4; refine CW.mono ?_; rintro e w6 ⟨rfl, hb⟩; have H6 : Hid (Below q W w6) := HBH.out.1.trans (hb.mono HBH.out.2); clear hb CW)
                                  go_ret
                                  exact ⟨rfl, H6.out⟩
end Go.Proofs.YtchnkpgkckadmabDoor
