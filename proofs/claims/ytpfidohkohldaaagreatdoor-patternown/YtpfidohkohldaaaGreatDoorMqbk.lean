import Derived.Test.YtpfidohkohldaaaGreatDoorMqbj
namespace Go.Proofs.YtpfidohkohldaaaGreatDoor
set_option linter.unusedSimpArgs false
set_option linter.unusedVariables false
set_option maxRecDepth 100000
open Go.ChangeShapes Go.WideShapes Go.ChangeAt Go.RowKit Go.Pin Go.Pat Go.Deep
def tk9 (j : Nat) : List Pt := tab.take j
theorem tk9_succ {j : Nat} (hj : j < 38) : tk9 (j + 1) = tk9 j ++ [tab.getD j zPt] := by
  unfold tk9
  rw [List.take_add_one, List.getElem?_eq_getElem (show j < tab.length by rw [tab_ln]; exact hj)]
  simp [List.getD, List.getElem?_eq_getElem (show j < tab.length by rw [tab_ln]; exact hj)]
def NI (nb q n : Nat) (w0 : World) (A0 : List AP) (j : Nat) (W : World) : Prop := j ≤ 8 ∧ nb < n ∧ ∃ vo A, AK nb q w0 vo A W ∧ A.length = 3 + j ∧ A.map (·.p) = A0.map (·.p) ++ tk9 j
def NS (nb q : Nat) (w0 : World) (A0 : List AP) (W : World) : Prop := ∃ vo A, AK nb q w0 vo A W ∧ A.map (·.p) = A0.map (·.p) ++ tk9 9
theorem nine_y {nb q n : Nat} {w0 : World} {A0 : List AP} : YX n 19 #[.pointer (some ⟨nb, 0, none⟩)] (NI nb q n w0 A0) (NS nb q w0 A0) := by
  intro j W1 W v0 v1 vl hj hI hb hft how
  obtain ⟨hj8, hnbw, vo, A, hK, hlen, hmap⟩ := hI
  obtain ⟨fs, hq⟩ := owq_owp how
  have htk := tk9_succ hj
  clear how hft
  generalize tab.getD j zPt = Pj at *
  have hok : AP.ok ⟨v0, v1, vl, Pj, fs, W1.heap.size, W.heap.size⟩ W := OwI.ofP hq hb.size
  have hnb1 : nb < W1.heap.size := (Array.getElem?_eq_some_iff.1 hK.bx).1
  have hC := asked1_any (hK.below hb) hok (fun g hg => (hK.al.ro.lt g hg).2) (fun x hx => (hK.al.ok x hx).hz) hnb1 (by omega)
  refine Calls.mono hC ?_
  rintro e W' ⟨rfl, ⟨vo', hK'⟩, hsz, hkp⟩
  have hmap' : (A ++ [(⟨v0, v1, vl, Pj, fs, W1.heap.size, W.heap.size⟩ : AP)]).map (·.p) = A0.map (·.p) ++ tk9 (j + 1) := by
    rw [List.map_append, hmap, htk]
    simp
  refine ⟨decide (A.length + 1 < 12), rfl, fun k hk1 hk2 hk3 => hkp k hk2 (by omega) (fun e => ?_), hsz, ?_⟩
  · have ho := (hK.below hb).al.ro
    rcases ho.2 with ⟨e1, _⟩ | ⟨g, cap, cur, e1, _, e3, _⟩
    · rw [e1] at e; cases e
    · rw [e1] at e
      have e' : some g = some k := e
      injection e' with e'
      subst e'
      exact hk3 _ e3
  · by_cases h5 : A.length + 1 < 12
    · rw [if_pos (by simpa using h5)]
      exact ⟨by omega, hnbw, vo', _, hK', by rw [List.length_append, hlen]; simp; omega, hmap'⟩
    · rw [if_neg (by simpa using h5)]
      obtain rfl : j = 8 := by omega
      exact ⟨vo', _, hK', hmap'⟩
theorem all_nine {ea : Int → Addr} (nb q : Nat) (w0 w : World) (vo : Value) (A0 : List AP) (h : AK nb q w0 vo A0 w) (h3 : A0.length = 3) (hE : ∀ y, Below q w0 y → Errs ea y) :
    Calls Tryz.prog 32 #[.func (.func 19) #[] #[.pointer (some ⟨nb, 0, none⟩)]] w fun e w' => e = .returned (.tuple #[]) ∧ NS nb q w0 A0 w' := by
  have hC := all1_ox (ea := ea) w.heap.size 19 #[.pointer (some ⟨nb, 0, none⟩)] (NI nb q w.heap.size w0 A0) (NS nb q w0 A0) w rfl (fun _ _ => rfl) nine_y (fun j W hW => by obtain ⟨_, _, _, _, hK, _⟩ := hW; exact hE _ hK.old) ⟨Nat.zero_le _, (Array.getElem?_eq_some_iff.1 h.bx).1, vo, A0, h, h3, by simp [tk9]⟩
  refine hC.mono ?_
  rintro e w' ⟨rfl, h5 | h5⟩
  · exact ⟨rfl, h5⟩
  · exact absurd h5.1 (by decide)
/-- three answers in a row, in a box -/
theorem ak_start {q : Nat} {w0 w : World} {a b c : AP} (ha : a.ok w) (hb : b.ok w) (hc : c.ok w) (h1 : a.hi ≤ b.lo) (h2 : b.hi ≤ c.lo) (hq : q ≤ a.lo) (hold : Below q w0 w) :
    AK (w.heap.size + 1) q w0 (.slice (some ⟨w.heap.size, 0, none⟩) 3 3) [a, b, c] ((w.alloc (.cells (pcs [a, b, c]).toArray 26)).alloc (.cells #[.slice (some ⟨w.heap.size, 0, none⟩) 3 3] 31)) := by
  have hb1 : Below w.heap.size w (w.alloc (.cells (pcs [a, b, c]).toArray 26)) := (Below.refl _ _).alloc (Nat.le_refl _) _
  have hb2 : Below w.heap.size w ((w.alloc (.cells (pcs [a, b, c]).toArray 26)).alloc (.cells #[.slice (some ⟨w.heap.size, 0, none⟩) 3 3] 31)) := hb1.alloc (by rw [size_alloc]; omega) _
  have e1 : (w.alloc (.cells (pcs [a, b, c]).toArray 26)).heap.size = w.heap.size + 1 := size_alloc _ _
  have hz := ha.hz
  have hzb := hb.hz
  have hzc := hc.hz
  have hla := ha.2.2.2.1
  have hlb := hb.2.2.2.1
  have hlc := hc.2.2.2.1
  have hk : ∀ x : AP, x.ok w → x.ok ((w.alloc (.cells (pcs [a, b, c]).toArray 26)).alloc (.cells #[.slice (some ⟨w.heap.size, 0, none⟩) 3 3] 31)) := fun x hx => hx.keep (fun k _ h2 => hb2.block k (by have := hx.hz; omega)) hb2.size
  refine ⟨⟨?_, fun x hx => ?_, ?_, fun x hx => ?_, fun g hg x hx => ?_⟩, ?_, ?_, by omega, fun x hx => ?_, fun g hg => ?_⟩
  · refine ⟨by simp [pcs, AP.cs], .inr ⟨w.heap.size, 3, (pcs [a, b, c]).toArray, rfl, by omega, ?_, Nat.le_refl _, by unfold maxLen; omega, by simp [pcs, AP.cs], by simp [pcs, AP.cs]⟩⟩
    rw [Below.heap_alloc _ _ _ (by rw [e1]; omega)]
    exact heap_alloc_new _ _
  · simp only [List.mem_cons, List.not_mem_nil, or_false] at hx
    rcases hx with rfl | rfl | rfl
    · exact hk _ ha
    · exact hk _ hb
    · exact hk _ hc
  · simp only [List.pairwise_cons, List.mem_cons, List.not_mem_nil, or_false, List.Pairwise.nil, and_true, forall_eq_or_imp, forall_eq]
    exact ⟨⟨h1, by omega⟩, h2, fun _ h => absurd h (by simp)⟩
  · simp only [List.mem_cons, List.not_mem_nil, or_false] at hx
    rcases hx with rfl | rfl | rfl <;> omega
  · have e : some w.heap.size = some g := hg
    injection e with e
    subst e
    simp only [List.mem_cons, List.not_mem_nil, or_false] at hx
    rcases hx with rfl | rfl | rfl <;> exact .inr (by omega)
  · have := heap_alloc_new (w.alloc (.cells (pcs [a, b, c]).toArray 26)) (.cells #[.slice (some ⟨w.heap.size, 0, none⟩) 3 3] 31)
    rw [e1] at this
    exact this
  · exact hold.trans (hb2.mono (by omega))
  · simp only [List.mem_cons, List.not_mem_nil, or_false] at hx
    rcases hx with rfl | rfl | rfl <;> exact .inr (by omega)
  · have e : some w.heap.size = some g := hg
    injection e with e
    omega
set_option maxHeartbeats 8000000 in
theorem asked_any {ea : Int → Addr} (t k : ByteArray) (v wv : Value) (p : Pt) (ws : List ByteArray) (W : World) (hE : Errs ea W) (hR : RdP W v p) (hw : RdS W wv ws) (ht : t.size ≤ 140737488355328) (hnm : p.nm.size ≤ 140737488355328) (hws : ws.length ≤ 200) (hwz : ∀ x ∈ ws, x.size ≤ 140737488355328) (hcap : ∀ a n c, wv = .slice a n c → n ≤ c) :
    Calls Tryz.prog 7 #[.string t, .string k, v, wv] W fun e w' => ∃ vo, e = .returned vo ∧ (∃ A, AL W.heap.size vo A w' ∧ A.map (·.p) = ask t k p ws) ∧ Below W.heap.size W w' := by
  have CM := fun Y (hY : Below W.heap.size W Y) => modify_ano (ea := ea) v wv p ws Y (hE.below hY) (hR.below hY) (hw.below hY) hnm hws hwz hcap
  have CP := fun Y (hY : Below W.heap.size W Y) => parse_ano (ea := ea) t Y (hE.below hY) ht
  have CF := fun Y (hY : Below W.heap.size W Y) => find_ano (ea := ea) k Y (hE.below hY)
  unfold ask
  generalize (prs t).1 = P1 at CP ⊢
  generalize (tbI k).getD zPt = P2 at CF ⊢
  generalize (mdf p ws).1 = P3 at CM ⊢
  generalize EV ea (prs t).2 = x1 at CP
  generalize EV ea (mdf p ws).2 = x3 at CM
  generalize (tbI k).isSome = x2 at CF
  obtain ⟨v0, v1, vl, rfl, h0, h1, hl⟩ := hR
  obtain ⟨a0, p0, rfl, -⟩ := id h0
  obtain ⟨a1, p1, rfl, -⟩ := id h1
  obtain ⟨al, cl, rfl, -⟩ := id hl
  obtain ⟨aw, cw, rfl, -⟩ := id hw
  have hst := pb_start W p.nm (.slice a0 p.b0.length p0) (.slice a1 p.b1.length p1) (.slice al p.ln.length cl)
  obtain ⟨q, hq⟩ : ∃ q, W.heap.size = q := ⟨_, rfl⟩
  obtain ⟨nm, hnmE⟩ : ∃ nm, p.nm = nm := ⟨_, rfl⟩
  obtain ⟨n0, hn0⟩ : ∃ n0, p.b0.length = n0 := ⟨_, rfl⟩
  obtain ⟨n1, hn1⟩ : ∃ n1, p.b1.length = n1 := ⟨_, rfl⟩
  obtain ⟨L, hLn⟩ : ∃ L, p.ln.length = L := ⟨_, rfl⟩
  obtain ⟨n, hn⟩ : ∃ n, ws.length = n := ⟨_, rfl⟩
  have HE : Hid (∀ y, Below q W y → Errs ea y) := fun y hy => hE.below (by rw [hq]; exact hy)
  simp only [hq, hnmE, hn0, hn1, hLn, hn] at hst CM CP CF ⊢
  have HCM : Hid (∀ Y, Below q W Y → _) := CM
  have HCP : Hid (∀ Y, Below q W Y → _) := CP
  have HCF : Hid (∀ Y, Below q W Y → _) := CF
  obtain ⟨W0, hW0⟩ : ∃ W0, W.alloc (.cells #[.string nm, .slice a0 n0 p0, .slice a1 n1 p1, .slice al L cl] 26) = W0 := ⟨_, rfl⟩
  rw [hW0] at hst
  have H0 : Hid (PB q W nm (.slice a0 n0 p0) (.slice a1 n1 p1) (.slice al L cl) W0) := hst
  have C1 := HCP.out W0 hst.old
  unfold AnO at C1
  obtain ⟨l1, hl1⟩ : ∃ l1, W0.heap.size = l1 := ⟨_, rfl⟩
  rw [hl1] at C1
  have HL1 : Hid (W0.heap.size = l1 ∧ q ≤ l1) := ⟨hl1, by have := hst.lt; omega⟩
  clear hst CM CP CF h0 h1 hl hw hnmE hn0 hn1 hLn hn hcap hnm hws hwz hE ht hl1
  go_enter Tryz.func7, Tryz.ntmps7
  go_upto_region 2 with (go_at_call 12; refine C1.mono ?_; rintro e w1 ⟨hb, b0, b1, bl, f1, rfl, how⟩; (obtain ⟨⟨c0, d0, rfl⟩, ⟨c1, d1, rfl⟩, ⟨c2, d2, rfl⟩, -⟩ := how.1.sl); have H1 : Hid (PB q W nm (.slice a0 n0 p0) (.slice a1 n1 p1) (.slice al L cl) w1 ∧ OwI l1 w1.heap.size (.slice c0 P1.b0.length d0) (.slice c1 P1.b1.length d1) (.slice c2 f1.length d2) P1 f1 w1) := ⟨H0.out.below (by rw [HL1.out.1]; exact hb), how⟩; clear hb how C1)
  clear hq
  have hbx := ab_new w1 H1.out.2
  have hal : Below w1.heap.size w1 (w1.alloc (.cells #[.string P1.nm, .slice c0 P1.b0.length d0, .slice c1 P1.b1.length d1, .slice c2 f1.length d2] 26)) := (Below.refl _ _).alloc (Nat.le_refl _) _
  have hpb := H1.out.1.below hal
  obtain ⟨g1, hg1⟩ : ∃ g1, w1.heap.size = g1 := ⟨_, rfl⟩
  obtain ⟨W2, hW2⟩ : ∃ W2, w1.alloc (.cells #[.string P1.nm, .slice c0 P1.b0.length d0, .slice c1 P1.b1.length d1, .slice c2 f1.length d2] 26) = W2 := ⟨_, rfl⟩
  simp only [hg1, hW2] at hbx hpb ⊢
  have H2 : Hid (PB q W nm (.slice a0 n0 p0) (.slice a1 n1 p1) (.slice al L cl) W2 ∧ AB g1 (.slice c0 P1.b0.length d0) (.slice c1 P1.b1.length d1) (.slice c2 f1.length d2) P1 f1 l1 g1 W2) := ⟨hpb, hbx⟩
  have C2 := HCF.out W2 hpb.old
  unfold AnO at C2
  obtain ⟨l2, hl2⟩ : ∃ l2, W2.heap.size = l2 := ⟨_, rfl⟩
  rw [hl2] at C2
  have HL2 : Hid (W2.heap.size = l2 ∧ g1 ≤ l2) := ⟨hl2, by have := hbx.lt; omega⟩
  clear hbx hal hpb hg1 hW2 hl2 H1
  go_upto_region 3 with (go_at_call 13; refine C2.mono ?_; rintro e w3 ⟨hb, b0, b1, bl, f2, rfl, how⟩; (obtain ⟨⟨c3, d3, rfl⟩, ⟨c4, d4, rfl⟩, ⟨c5, d5, rfl⟩, -⟩ := how.1.sl); have H3 : Hid (PB q W nm (.slice a0 n0 p0) (.slice a1 n1 p1) (.slice al L cl) w3 ∧ AB g1 (.slice c0 P1.b0.length d0) (.slice c1 P1.b1.length d1) (.slice c2 f1.length d2) P1 f1 l1 g1 w3 ∧ OwI l2 w3.heap.size (.slice c3 P2.b0.length d3) (.slice c4 P2.b1.length d4) (.slice c5 f2.length d5) P2 f2 w3) := ⟨H2.out.1.below (by rw [HL2.out.1]; exact hb), H2.out.2.below (by rw [HL2.out.1]; exact hb), how⟩; clear hb how C2)
  have hbx := ab_new w3 H3.out.2.2
  have hal : Below w3.heap.size w3 (w3.alloc (.cells #[.string P2.nm, .slice c3 P2.b0.length d3, .slice c4 P2.b1.length d4, .slice c5 f2.length d5] 26)) := (Below.refl _ _).alloc (Nat.le_refl _) _
  have hpb := H3.out.1.below hal
  have hb1 := H3.out.2.1.below hal
  obtain ⟨g2, hg2⟩ : ∃ g2, w3.heap.size = g2 := ⟨_, rfl⟩
  obtain ⟨W4, hW4⟩ : ∃ W4, w3.alloc (.cells #[.string P2.nm, .slice c3 P2.b0.length d3, .slice c4 P2.b1.length d4, .slice c5 f2.length d5] 26) = W4 := ⟨_, rfl⟩
  simp only [hg2, hW4] at hbx hpb hb1 ⊢
  have H4 : Hid (PB q W nm (.slice a0 n0 p0) (.slice a1 n1 p1) (.slice al L cl) W4 ∧ AB g1 (.slice c0 P1.b0.length d0) (.slice c1 P1.b1.length d1) (.slice c2 f1.length d2) P1 f1 l1 g1 W4 ∧ AB g2 (.slice c3 P2.b0.length d3) (.slice c4 P2.b1.length d4) (.slice c5 f2.length d5) P2 f2 l2 g2 W4) := ⟨hpb, hb1, hbx⟩
  have C3 := HCM.out W4 hpb.old
  unfold AnO at C3
  obtain ⟨l3, hl3⟩ : ∃ l3, W4.heap.size = l3 := ⟨_, rfl⟩
  rw [hl3] at C3
  have HL3 : Hid (W4.heap.size = l3 ∧ g2 ≤ l3) := ⟨hl3, by have := hbx.lt; omega⟩
  have k0 := hpb.c0
  have k1 := hpb.c1
  have k2 := hpb.c2
  have k3 := hpb.c3
  clear hbx hal hpb hb1 hg2 hW4 hl3 H3 H2
  go_upto_region 4 with (go_at_call 15; refine C3.mono ?_; rintro e w5 ⟨hb, b0, b1, bl, f3, rfl, how⟩; (obtain ⟨⟨c6, d6, rfl⟩, ⟨c7, d7, rfl⟩, ⟨c8, d8, rfl⟩, -⟩ := how.1.sl); have H5 : Hid (PB q W nm (.slice a0 n0 p0) (.slice a1 n1 p1) (.slice al L cl) w5 ∧ AB g1 (.slice c0 P1.b0.length d0) (.slice c1 P1.b1.length d1) (.slice c2 f1.length d2) P1 f1 l1 g1 w5 ∧ AB g2 (.slice c3 P2.b0.length d3) (.slice c4 P2.b1.length d4) (.slice c5 f2.length d5) P2 f2 l2 g2 w5 ∧ OwI l3 w5.heap.size (.slice c6 P3.b0.length d6) (.slice c7 P3.b1.length d7) (.slice c8 f3.length d8) P3 f3 w5) := ⟨H4.out.1.below (by rw [HL3.out.1]; exact hb), H4.out.2.1.below (by rw [HL3.out.1]; exact hb), H4.out.2.2.below (by rw [HL3.out.1]; exact hb), how⟩; clear hb how C3 k0 k1 k2 k3)
  have hbx := ab_new w5 H5.out.2.2.2
  have hal : Below w5.heap.size w5 (w5.alloc (.cells #[.string P3.nm, .slice c6 P3.b0.length d6, .slice c7 P3.b1.length d7, .slice c8 f3.length d8] 26)) := (Below.refl _ _).alloc (Nat.le_refl _) _
  have hpb := H5.out.1.below hal
  have hb1 := H5.out.2.1.below hal
  have hb2 := H5.out.2.2.1.below hal
  obtain ⟨g3, hg3⟩ : ∃ g3, w5.heap.size = g3 := ⟨_, rfl⟩
  obtain ⟨W6, hW6⟩ : ∃ W6, w5.alloc (.cells #[.string P3.nm, .slice c6 P3.b0.length d6, .slice c7 P3.b1.length d7, .slice c8 f3.length d8] 26) = W6 := ⟨_, rfl⟩
  simp only [hg3, hW6] at hbx hpb hb1 hb2 ⊢
  have hak := ak_start (w0 := W) (a := ⟨.slice c0 P1.b0.length d0, .slice c1 P1.b1.length d1, .slice c2 f1.length d2, P1, f1, l1, g1⟩) (b := ⟨.slice c3 P2.b0.length d3, .slice c4 P2.b1.length d4, .slice c5 f2.length d5, P2, f2, l2, g2⟩) (c := ⟨.slice c6 P3.b0.length d6, .slice c7 P3.b1.length d7, .slice c8 f3.length d8, P3, f3, l3, g3⟩) hb1.ok hb2.ok hbx.ok HL2.out.2 HL3.out.2 HL1.out.2 hpb.old
  have x0 := hb1.c0
  have x1 := hb1.c1
  have x2 := hb1.c2
  have x3 := hb1.c3
  have y0 := hb2.c0
  have y1 := hb2.c1
  have y2 := hb2.c2
  have y3 := hb2.c3
  have z0 := hbx.c0
  have z1 := hbx.c1
  have z2 := hbx.c2
  have z3 := hbx.c3
  have HAK : Hid _ := hak
  clear hbx hal hpb hb1 hb2 hg3 hW6 H5 H4 hak
  go_upto_region 5 with (fail)
  obtain ⟨W7, hW7⟩ : ∃ W7, (W6.alloc (.cells #[.string P1.nm, .slice c0 P1.b0.length d0, .slice c1 P1.b1.length d1, .slice c2 f1.length d2, .string P2.nm, .slice c3 P2.b0.length d3, .slice c4 P2.b1.length d4, .slice c5 f2.length d5, .string P3.nm, .slice c6 P3.b0.length d6, .slice c7 P3.b1.length d7, .slice c8 f3.length d8] 26)).alloc (.cells #[.slice (some ⟨W6.heap.size, 0, none⟩) 3 3] 31) = W7 := ⟨_, rfl⟩
  have hx : AK (W6.heap.size + 1) q W (.slice (some ⟨W6.heap.size, 0, none⟩) 3 3) [⟨.slice c0 P1.b0.length d0, .slice c1 P1.b1.length d1, .slice c2 f1.length d2, P1, f1, l1, g1⟩, ⟨.slice c3 P2.b0.length d3, .slice c4 P2.b1.length d4, .slice c5 f2.length d5, P2, f2, l2, g2⟩, ⟨.slice c6 P3.b0.length d6, .slice c7 P3.b1.length d7, .slice c8 f3.length d8, P3, f3, l3, g3⟩] W7 := by rw [← hW7]; exact HAK.out
  rw [hW7]
  obtain ⟨nb, hnb⟩ : ∃ nb, W6.heap.size + 1 = nb := ⟨_, rfl⟩
  rw [hnb] at hx ⊢
  have CI := all_nine (ea := ea) nb q W W7 _ _ hx rfl HE.out
  unfold NS at CI
  simp only [List.map_cons, List.map_nil] at CI
  have CA := all0_any
  clear hx hW7 hnb HAK x0 x1 x2 x3 y0 y1 y2 y3 z0 z1 z2 z3
  go_upto_region 6 with (go_at_call 16; refine (CA _).mono ?_; rintro e wa ⟨rfl, rfl⟩)
  clear CA
  have hnf : ∀ (w : World), (binOp BinOp.eql 54 (.func (.func 32) #[] #[]) Value.nilFunc).run Tryz.prog w = .ok (.bool false) w := fun _ => rfl
  go_upto_region 9 with (go_at_call 32; refine CI.mono ?_; rintro e w8 ⟨rfl, vo, A, hk, hm⟩; (obtain ⟨a8, c8', rfl⟩ := own_slice' hk.al.ro); have HK : Hid (AK nb q W (.slice a8 A.length c8') A w8 ∧ A.map (·.p) = [P1, P2, P3] ++ tk9 9) := ⟨hk, hm⟩; clear hk hm CI)
  have z8 : w8.cell? ⟨nb, 0, none⟩ = some (.slice a8 A.length c8') := cell_of_row _ _ 0 _ _ _ HK.out.1.bx
  go_wp2
  go_ret
  exact ⟨_, rfl, ⟨A, HK.out.1.al, HK.out.2⟩, HK.out.1.old⟩
end Go.Proofs.YtpfidohkohldaaaGreatDoor
namespace Go.Proofs.YtpfidohkohldaaaGreatDoor
set_option linter.unusedSimpArgs false
set_option linter.unusedVariables false
set_option maxRecDepth 100000
open Go.ChangeShapes Go.WideShapes Go.ChangeAt Go.RowKit Go.Pin Go.Pat Go.Deep
theorem Ch.refl (lo hi : Nat) (w : World) : Ch lo hi w w := ⟨Below.refl _ _, fun _ _ _ => rfl⟩
theorem Ch.then {lo hi lo' hi' : Nat} {w w1 w2 : World} (h : Ch lo hi w w1) (h' : Ch lo' hi' w1 w2) (hl : lo ≤ lo') (hh : hi' ≤ hi) : Ch lo hi w w2 :=
  ⟨h.1.trans (h'.1.mono hl), fun k k1 k2 => (h'.2 k (by omega) (by have := h.1.size; omega)).trans (h.2 k k1 k2)⟩
theorem Ch.below {lo hi n : Nat} {w w1 w2 : World} (h : Ch lo hi w w1) (hb : Below n w1 w2) (hn : w.heap.size ≤ n) (hl : lo ≤ n) : Ch lo hi w w2 :=
  ⟨h.1.trans (hb.mono hl), fun k k1 k2 => (hb.block k (by omega)).trans (h.2 k k1 k2)⟩
theorem Ch.at {lo hi : Nat} {w w' : World} (h : Ch lo hi w w') {k : Nat} (hk : k < lo ∨ hi ≤ k) (hz : k < w.heap.size) : w'.heap[k]? = w.heap[k]? := by
  rcases hk with hk | hk
  · exact h.1.block k hk
  · exact h.2 k hk hz
/-- a pattern that is written over -/
def AP.fil (mk : Int) (a : AP) : AP := ⟨a.v0, a.v1, a.vl, filP mk a.p a.fs, filF mk a.fs, a.lo, a.hi⟩
theorem pcs_set {A : List AP} {i : Nat} {a b : AP} (ha : A[i]? = some a) (hc : b.cs = a.cs) : pcs (A.set i b) = pcs A := by
  have h : (A.set i b).map AP.cs = A.map AP.cs := by
    rw [List.map_set, hc]
    have hi := (List.getElem?_eq_some_iff.1 ha)
    obtain ⟨h1, h2⟩ := hi
    rw [← h2]
    apply List.ext_getElem?
    intro j
    rw [List.getElem?_set]
    split
    · rename_i e
      subst e
      simp [h1]
    · rfl
  unfold pcs
  rw [List.flatMap_def, h, ← List.flatMap_def]
theorem AL.dj {q : Nat} {vo : Value} {A : List AP} {w : World} (h : AL q vo A w) {i j : Nat} {a b : AP} (ha : A[i]? = some a) (hb : A[j]? = some b) (hne : i ≠ j) : a.hi ≤ b.lo ∨ b.hi ≤ a.lo := by
  obtain ⟨h1, rfl⟩ := List.getElem?_eq_some_iff.1 ha
  obtain ⟨h2, rfl⟩ := List.getElem?_eq_some_iff.1 hb
  have hp := List.pairwise_iff_getElem.1 h.ds
  rcases Nat.lt_or_gt_of_ne hne with hlt | hlt
  · exact .inl (hp i j h1 h2 hlt)
  · exact .inr (hp j i h2 h1 hlt)
/-- one of the patterns is another one now, in the same place -/
theorem AL.set {q : Nat} {vo : Value} {A : List AP} {w w' : World} (h : AL q vo A w) {i : Nat} {a b : AP} (ha : A[i]? = some a) (hc : b.cs = a.cs) (hl : b.lo = a.lo) (hh : b.hi = a.hi) (hb : b.ok w') (hch : Ch a.lo a.hi w w') : AL q vo (A.set i b) w' := by
  have hat : ∀ (j : Nat) (x : AP), (A.set i b)[j]? = some x → (j = i ∧ x = b) ∨ (j ≠ i ∧ A[j]? = some x) := fun j x hx => by
    rw [List.getElem?_set] at hx
    split at hx
    · rename_i e
      rw [if_pos (List.getElem?_eq_some_iff.1 ha).1] at hx
      injection hx with hx
      exact .inl ⟨e.symm, hx.symm⟩
    · rename_i e
      exact .inr ⟨fun h => e h.symm, hx⟩
  have hmem : ∀ x ∈ A.set i b, ∃ y ∈ A, x.lo = y.lo ∧ x.hi = y.hi := fun x hx => by
    obtain ⟨j, hj⟩ := List.getElem?_of_mem hx
    rcases hat j x hj with ⟨_, rfl⟩ | ⟨_, h2⟩
    · exact ⟨a, List.mem_of_getElem? ha, hl, hh⟩
    · exact ⟨x, List.mem_of_getElem? h2, rfl, rfl⟩
  refine ⟨?_, fun x hx => ?_, ?_, fun x hx => ?_, fun g hg x hx => ?_⟩
  · rw [pcs_set ha hc, List.length_set]
    exact own_keep h.ro (fun g hg => hch.at (h.ou g hg a (List.mem_of_getElem? ha)) (h.ro.lt g hg).2)
  · obtain ⟨j, hj⟩ := List.getElem?_of_mem hx
    rcases hat j x hj with ⟨_, rfl⟩ | ⟨hne, h2⟩
    · exact hb
    · have hm := h.ok x (List.mem_of_getElem? h2)
      refine hm.keep (fun k k1 k2 => hch.at ?_ (by have := hm.hz; omega)) hch.1.size
      rcases h.dj ha h2 (fun e => hne e.symm) with h3 | h3 <;> omega
  · have hd := h.ds
    rw [List.pairwise_iff_getElem] at hd ⊢
    intro s t hs ht hst
    have hs' : s < A.length := by simpa using hs
    have ht' : t < A.length := by simpa using ht
    have e1 : ((A.set i b)[s]).hi = (A[s]).hi := by
      rw [List.getElem_set]
      split
      · rename_i e
        subst e
        rw [hh]
        rw [List.getElem?_eq_getElem hs'] at ha
        injection ha with ha
        rw [ha]
      · rfl
    have e2 : ((A.set i b)[t]).lo = (A[t]).lo := by
      rw [List.getElem_set]
      split
      · rename_i e
        subst e
        rw [hl]
        rw [List.getElem?_eq_getElem ht'] at ha
        injection ha with ha
        rw [ha]
      · rfl
    rw [e1, e2]
    exact hd s t hs' ht' hst
  · obtain ⟨y, hy, e1, _⟩ := hmem x hx
    rw [e1]
    exact h.ge y hy
  · obtain ⟨y, hy, e1, e2⟩ := hmem x hx
    rw [e1, e2]
    exact h.ou g hg y hy
/-- the first i of them written over, each with a mark of its own -/
def filA (m : Nat → Int) (A : List AP) : Nat → List AP
  | 0 => A
  | i + 1 => (filA m A i).set i ((A.getD i ⟨undef, undef, undef, zPt, [], 0, 0⟩).fil (m i))
theorem filA_len (m : Nat → Int) (A : List AP) : ∀ i, (filA m A i).length = A.length
  | 0 => rfl
  | i + 1 => by rw [filA, List.length_set]; exact filA_len m A i
theorem filA_at (m : Nat → Int) (A : List AP) : ∀ (i j : Nat) (a : AP), A[j]? = some a → (filA m A i)[j]? = some (if j < i then a.fil (m j) else a)
  | 0, j, a, h => by simpa [filA] using h
  | i + 1, j, a, h => by
    have hl := (List.getElem?_eq_some_iff.1 h).1
    rw [filA, List.getElem?_set]
    split
    · rename_i e
      subst e
      rw [if_pos (by rw [filA_len]; exact hl), if_pos (Nat.lt_succ_self _)]
      simp [List.getD, h]
    · rename_i e
      rw [filA_at m A i j a h]
      congr 1
      by_cases hj : j < i
      · rw [if_pos hj, if_pos (by omega)]
      · rw [if_neg hj, if_neg (by omega)]
theorem AL.fill {q : Nat} {vo : Value} {A : List AP} {w w' : World} {m : Nat → Int} {i : Nat} {a : AP} (h : AL q vo (filA m A i) w) (ha : A[i]? = some a) (hb : (a.fil (m i)).ok w') (hch : Ch a.lo a.hi w w') : AL q vo (filA m A (i + 1)) w' := by
  have h1 := filA_at m A i i a ha
  rw [if_neg (Nat.lt_irrefl _)] at h1
  have h2 := h.set (b := a.fil (m i)) h1 rfl rfl rfl hb hch
  rw [filA]
  rw [show A.getD i ⟨undef, undef, undef, zPt, [], 0, 0⟩ = a by simp [List.getD, ha]]
  exact h2
theorem AP.fil_sz {mk : Int} {a : AP} {w : World} (h : a.ok w) (hs : Sz a.p) : Sz (a.fil mk).p := by
  have hf := hs.al (v0 := a.v0) (v1 := a.v1) h.1.1
  refine ⟨by simp [AP.fil, filP]; exact hs.1, by simp [AP.fil, filP]; exact hs.2.1, by simp only [AP.fil, filP, lvl_len, filF_len]; exact hf.1, fun x hx => ?_⟩
  simp only [AP.fil, filP, lvl, filF, List.map_map, List.mem_map, List.mem_range] at hx
  obtain ⟨t, ht, rfl⟩ := hx
  simp only [Function.comp_apply, filL, List.length_replicate]
  have hm : a.fs.getD t dLv ∈ a.fs := by
    rw [List.getD_eq_getElem?_getD, List.getElem?_eq_getElem ht]
    exact List.getElem_mem ht
  exact hf.2 _ (List.mem_cons_of_mem _ (List.mem_cons_of_mem _ hm))
/-- what bears asks of a pattern that was written over -/
theorem AP.fil_all (mk : Int) (a : AP) : (∀ (t : Nat) (f : Lv), (als a.v0 a.v1 (a.fil mk).p (a.fil mk).fs)[t]? = some f → f.2.2 = List.replicate f.2.2.length (mk + (t : Int))) ∧ ∀ f ∈ (a.fil mk).fs, f.1 = mk := by
  refine ⟨fun t f hf => ?_, fun f hf => ?_⟩
  · match t, hf with
    | 0, hf =>
      simp only [als, AP.fil, filP, List.getElem?_cons_zero, Option.some.injEq] at hf
      subst hf
      simp
    | 1, hf =>
      simp only [als, AP.fil, filP, List.getElem?_cons_succ, List.getElem?_cons_zero, Option.some.injEq] at hf
      subst hf
      simp
    | t + 2, hf =>
      simp only [als, AP.fil, filP, filF, List.getElem?_cons_succ, List.getElem?_map] at hf
      obtain ⟨s, hs, rfl⟩ := Option.map_eq_some_iff.1 hf
      rw [List.getElem?_range] at hs
      · injection hs with hs
        subst hs
        simp [filL]
      · have := (List.getElem?_eq_some_iff.1 hs).1
        simpa using this
  · simp only [AP.fil, filF, List.mem_map] at hf
    obtain ⟨t, _, rfl⟩ := hf
    rfl
end Go.Proofs.YtpfidohkohldaaaGreatDoor
