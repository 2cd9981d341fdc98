import Derived.Test.YtjhleocpipmklaaDoorMjas
namespace Go.Proofs.YtjhleocpipmklaaDoor
set_option linter.unusedSimpArgs false
set_option linter.unusedVariables false
open Go.ChangeShapes Go.WideShapes Go.ChangeAt Go.RowKit Go.Pin Go.Pat Go.Deep
theorem lng_small {p : Pt} (h : lng p = false) : p.b0.length ≤ 200 ∧ p.b1.length ≤ 200 ∧ p.ln.length ≤ 200 ∧ ∀ i, i < p.ln.length → (p.ln.getD i (0, [])).2.length ≤ 200 := by
  unfold lng at h
  simp only [Bool.or_eq_false_iff, decide_eq_false_iff_not, List.any_eq_false, decide_eq_true_eq] at h
  obtain ⟨⟨⟨h1, h2⟩, h3⟩, h4⟩ := h
  refine ⟨by omega, by omega, by omega, fun i hi => ?_⟩
  have := h4 (p.ln.getD i (0, [])) (by simp [List.getD, hi])
  omega
/-- what twin makes -/
def TwP (p : Pt) (t : Nat) (nm : ByteArray) (g0 g1 : Nat) (B : List Nat) (gl cl : Nat) (TV : Value) (w : World) : Prop :=
  w.heap[t]? = some (.cells #[.string nm, tkv g0 p.b0, tkv g1 p.b1, .slice (some ⟨gl, 0, none⟩) p.ln.length cl, whv g0 p.b0, whv g1 p.b1, .slice (some ⟨gl, 0, none⟩) (p.ln.length + 2) cl, TV] 37) ∧
  (∀ e ∈ [(g0, p.b0), (g1, p.b1)] ++ lmw p.ln B, RwB e.1 (rm e.2) w) ∧ (([(g0, p.b0), (g1, p.b1)] ++ lmw p.ln B).map (·.1)).Nodup ∧ B.length = p.ln.length ∧
  w.ownsRow (t + 1) 43 2 (.slice (some ⟨gl, 0, none⟩) (p.ln.length + 2) cl) (p.ln.length + 2) (lcw (lfw p.ln B ++ [(71, .slice none 0 0), (72, .slice none 0 0)])) ∧
  w.ownsRow (t + 1) 22 1 TV p.ln.length (twv p.ln B)
/-- its blocks are new -/
def TwG (p : Pt) (t g0 g1 : Nat) (B : List Nat) : Prop := ∀ e ∈ [(g0, p.b0), (g1, p.b1)] ++ lmw p.ln B, t < e.1
set_option maxRecDepth 100000 in
set_option maxHeartbeats 8000000 in
theorem twin_any (v : Value) (p : Pt) (W : World) (hR : RdP W v p) (hs : lng p = false) :
    Calls Tryd.prog 10 #[v] W fun e w' => ∃ t g0 g1 B gl cl TV, e = .returned (.pointer (some ⟨t, 0, none⟩)) ∧ W.heap.size ≤ t ∧ TwP p t p.nm g0 g1 B gl cl TV w' ∧ TwG p t g0 g1 B ∧ Below W.heap.size W w' := by
  obtain ⟨v0, v1, vl, rfl, h0, h1, hl⟩ := hR
  obtain ⟨a0, p0, rfl, -, z0, -⟩ := id h0
  obtain ⟨a1, p1, rfl, -, z1, -⟩ := id h1
  obtain ⟨al, cl, rfl, -, zl, -⟩ := id hl
  have hsm := lng_small hs
  have hst := pb_start W p.nm (.slice a0 p.b0.length p0) (.slice a1 p.b1.length p1) (.slice al p.ln.length cl)
  have hH0 := fun Y (hY : Below W.heap.size W Y) => room_any (h0.below hY) hsm.1
  have hH1 := fun Y (hY : Below W.heap.size W Y) => room_any (h1.below hY) hsm.2.1
  have hHL := fun Y (hY : Below W.heap.size W Y) => hl.below hY
  obtain ⟨q, hq⟩ : ∃ q, W.heap.size = q := ⟨_, rfl⟩
  obtain ⟨nm, hnm⟩ : ∃ nm, p.nm = nm := ⟨_, rfl⟩
  obtain ⟨n0, hn0⟩ : ∃ n0, p.b0.length = n0 := ⟨_, rfl⟩
  obtain ⟨n1, hn1⟩ : ∃ n1, p.b1.length = n1 := ⟨_, rfl⟩
  obtain ⟨L, hLn⟩ : ∃ L, p.ln.length = L := ⟨_, rfl⟩
  simp only [hq, hnm, hn0, hn1, hLn] at hst hH0 hH1 hHL hsm ⊢
  obtain ⟨W0, hW0⟩ : ∃ W0, W.alloc (.cells #[.string nm, .slice a0 n0 p0, .slice a1 n1 p1, .slice al L cl] 26) = W0 := ⟨_, rfl⟩
  rw [hW0] at hst
  have HP : Hid (PB q W nm (.slice a0 n0 p0) (.slice a1 n1 p1) (.slice al L cl) W0) := hst
  have HH0 : Hid _ := hH0
  have HH1 : Hid _ := hH1
  have HHL : Hid _ := hHL
  have HS : Hid (n0 ≤ 200 ∧ n1 ≤ 200 ∧ L ≤ 200 ∧ ∀ i, i < L → (p.ln.getD i (0, [])).2.length ≤ 200) := hsm
  have HL : Hid (p.ln.length = L ∧ p.b0.length = n0 ∧ p.b1.length = n1) := ⟨hLn, hn0, hn1⟩
  have c0 := hst.c0
  clear hst h0 h1 hl hnm hn0 hn1 hLn hH0 hH1 hHL hs hsm z0 z1 zl
  go_enter Tryd.func10, Tryd.ntmps10
  go_upto_region 3 with (fail)
  obtain ⟨t, ht⟩ : ∃ t, W0.heap.size = t := ⟨_, rfl⟩
  have hb1 : Below W0.heap.size W0 (W0.alloc (.cells #[.string nm, .slice none 0 0, .slice none 0 0, .slice none 0 0, .slice none 0 0, .slice none 0 0, .slice none 0 0, .slice none 0 0] 37)) := (Below.refl _ _).alloc (Nat.le_refl _) _
  have hts : TwS q t W nm (.slice a0 n0 p0) (.slice a1 n1 p1) (.slice al L cl) [.string nm, (.slice none 0 0), (.slice none 0 0), (.slice none 0 0), (.slice none 0 0), (.slice none 0 0), (.slice none 0 0), (.slice none 0 0)] [] (W0.alloc (.cells #[.string nm, .slice none 0 0, .slice none 0 0, .slice none 0 0, .slice none 0 0, .slice none 0 0, .slice none 0 0, .slice none 0 0] 37)) := ⟨HP.out.below hb1, by rw [← ht]; exact HP.out.lt, by rw [← ht]; exact heap_alloc_new _ _, fun e he => (nomatch he), List.Pairwise.nil, fun e he => (nomatch he)⟩
  obtain ⟨W1, hW1⟩ : ∃ W1, W0.alloc (.cells #[.string nm, .slice none 0 0, .slice none 0 0, .slice none 0 0, .slice none 0 0, .slice none 0 0, .slice none 0 0, .slice none 0 0] 37) = W1 := ⟨_, rfl⟩
  rw [hW1] at hts
  simp only [hW1, ht]
  have HT1 : Hid (TwS q t W nm (.slice a0 n0 p0) (.slice a1 n1 p1) (.slice al L cl) [.string nm, (.slice none 0 0), (.slice none 0 0), (.slice none 0 0), (.slice none 0 0), (.slice none 0 0), (.slice none 0 0), (.slice none 0 0)] [] W1) := hts
  clear hb1 hts hW1 ht c0
  go_loopw [4] (fun v4 wr => (v4 = .int .i64 0 ∧ TwS q t W nm (.slice a0 n0 p0) (.slice a1 n1 p1) (.slice al L cl) [.string nm, (.slice none 0 0), (.slice none 0 0), (.slice none 0 0), (.slice none 0 0), (.slice none 0 0), (.slice none 0 0), (.slice none 0 0)] [] wr) ∨ (v4 = .int .i64 1 ∧ ∃ g0, TwS q t W nm (.slice a0 n0 p0) (.slice a1 n1 p1) (.slice al L cl) [.string nm, (.slice (some ⟨g0, 0, none⟩) n0 (n0 + 9)), (.slice none 0 0), (.slice none 0 0), (.slice (some ⟨g0, 0, none⟩) (n0 + 9) (n0 + 9)), (.slice none 0 0), (.slice none 0 0), (.slice none 0 0)] [(g0, p.b0)] wr) ∨ (v4 = .int .i64 2 ∧ ∃ g0 g1, TwS q t W nm (.slice a0 n0 p0) (.slice a1 n1 p1) (.slice al L cl) [.string nm, (.slice (some ⟨g0, 0, none⟩) n0 (n0 + 9)), (.slice (some ⟨g1, 0, none⟩) n1 (n1 + 9)), (.slice none 0 0), (.slice (some ⟨g0, 0, none⟩) (n0 + 9) (n0 + 9)), (.slice (some ⟨g1, 0, none⟩) (n1 + 9) (n1 + 9)), (.slice none 0 0), (.slice none 0 0)] [(g0, p.b0), (g1, p.b1)] wr)) (fun v _ => 2 - (intOf v).toNat)
  case atStart => exact .inl ⟨rfl, HT1.out⟩
  case round =>
    rcases hrel with ⟨rfl, hs⟩ | ⟨rfl, g0, hs⟩ | ⟨rfl, g0, g1, hs⟩
    · have HS0 : Hid (TwS q t W nm (.slice a0 n0 p0) (.slice a1 n1 p1) (.slice al L cl) [.string nm, (.slice none 0 0), (.slice none 0 0), (.slice none 0 0), (.slice none 0 0), (.slice none 0 0), (.slice none 0 0), (.slice none 0 0)] [] wr) := hs
      have st0 : PB q W nm (.slice a0 n0 p0) (.slice a1 n1 p1) (.slice al L cl) wr.drew := hs.pb.below (drew_below (Below.refl _ _))
      clear hs
      go_upto_region 5 with (fail)
      refine Go.Pin.wp_region_hcls (fun Y => PB q W nm (.slice a0 n0 p0) (.slice a1 n1 p1) (.slice al L cl) Y) 11 (by rfl) (by kernel_rfl) st0 ?_
      intro Sq fq hNq hRq hSq
      have y1 := fun x => (hRq x).c1
      have HSd : Hid (TwS q t W nm (.slice a0 n0 p0) (.slice a1 n1 p1) (.slice al L cl) [.string nm, (.slice none 0 0), (.slice none 0 0), (.slice none 0 0), (.slice none 0 0), (.slice none 0 0), (.slice none 0 0), (.slice none 0 0)] [] wr.drew) := HS0.out.below (drew_below (Below.refl _ _))
      obtain ⟨wd, hwd⟩ : ∃ wd, wr.drew = wd := ⟨_, rfl⟩
      rw [hwd] at st0 HSd ⊢
      clear hwd
      refine Go.Pin.takeQ 0 (by simp only [List.getElem?_toArray, List.getElem?_cons_zero, List.getElem?_cons_succ]; exact rfl) (by kernel_rfl) (by kernel_rfl) (by kernel_rfl) (by rfl) (fun _ _ d _ _ h => by cases d <;> exact h) (st0) (hSq).out (by kernel_rfl) ?_
      intro Kq hKq
      go_big_quiet_op
      go_big_quiet_on
      refine Go.Pin.takeQ 1 (by simp only [List.getElem?_toArray, List.getElem?_cons_zero, List.getElem?_cons_succ]; exact rfl) (by kernel_rfl) (by kernel_rfl) (by kernel_rfl) (by rfl) (fun _ _ d _ _ h => by cases d <;> exact h) (st0) (hSq).out (by kernel_rfl) ?_
      intro Kq hKq
      go_big_quiet_op
      go_big_quiet_on
      refine Go.Pin.takeQ 2 (by simp only [List.getElem?_toArray, List.getElem?_cons_zero, List.getElem?_cons_succ]; exact rfl) (by kernel_rfl) (by kernel_rfl) (by kernel_rfl) (by rfl) (fun _ _ d _ _ h => by cases d <;> exact h) (st0) (hSq).out (by kernel_rfl) ?_
      intro Kq hKq
      go_big_quiet_op
      go_big_quiet_on
      refine Go.Pin.takeQ 3 (by simp only [List.getElem?_toArray, List.getElem?_cons_zero, List.getElem?_cons_succ]; exact rfl) (by kernel_rfl) (by kernel_rfl) (by kernel_rfl) (by rfl) (fun _ _ d _ _ h => by cases d <;> exact h) (st0) (hSq).out (by kernel_rfl) ?_
      intro Kq hKq
      go_big_quiet_op
      go_big_quiet_on
      refine Go.Pin.takeQ 4 (by simp only [List.getElem?_toArray, List.getElem?_cons_zero, List.getElem?_cons_succ]; exact rfl) (by kernel_rfl) (by kernel_rfl) (by kernel_rfl) (by rfl) (fun _ _ d _ _ h => by cases d <;> exact h) (st0) (hSq).out (by kernel_rfl) ?_
      intro Kq hKq
      go_big_quiet_op
      go_big_quiet_on
      refine Go.Pin.takeQ 5 (by simp only [List.getElem?_toArray, List.getElem?_cons_zero, List.getElem?_cons_succ]; exact rfl) (by kernel_rfl) (by kernel_rfl) (by kernel_rfl) (by rfl) (fun _ _ d _ _ h => by cases d <;> exact h) (st0) (hSq).out (by kernel_rfl) ?_
      intro Kq hKq
      go_big_quiet_op
      go_big_quiet_on
      refine takeV 7 (.pointer (some ⟨t, 0, none⟩)) (by simp only [List.getElem?_toArray, List.getElem?_cons_zero, List.getElem?_cons_succ]; exact rfl) (by kernel_rfl) (by kernel_rfl) (by kernel_rfl) (fun _ _ d _ _ h => by cases d <;> exact h) (st0) (by kernel_rfl) (fun Yq hYq => by unfold execOp; go_simp) ?_
      simp only [Act.put, List.setIfInBounds_toArray, List.set_cons_zero, List.set_cons_succ]
      refine Go.Pin.takeQ 8 (by simp only [List.getElem?_toArray, List.getElem?_cons_zero, List.getElem?_cons_succ]; exact rfl) (by kernel_rfl) (by kernel_rfl) (by kernel_rfl) (by rfl) (fun _ _ d _ _ h => by cases d <;> exact h) (st0) (hSq).out (by kernel_rfl) ?_
      intro Kq hKq
      go_big_quiet_op
      go_big_quiet_on
      have CR := HH0.out wd st0.old
      obtain ⟨g0, hg0⟩ : ∃ g0, wd.heap.size = g0 := ⟨_, rfl⟩
      rw [hg0] at CR
      refine Go.Pin.readyQ 6 (by simp only [List.getElem?_toArray, List.getElem?_cons_zero, List.getElem?_cons_succ]; exact rfl) (by kernel_rfl) (by kernel_rfl) ?_
      intro K hK
      refine wpCallU (d := some 23) (f := 22) (R := fun x w8 => x = .slice (some ⟨g0, 0, none⟩) (n0 + 9) (n0 + 9) ∧ RwB g0 (rm p.b0) w8 ∧ Below g0 wd w8) rfl rfl (args := #[.slice a0 n0 p0]) (by simp only [List.map_toArray, List.map_cons, List.map_nil]; rfl) (fun _ => rfl) (CR.mono (fun e w8 ⟨h1, h2⟩ => ⟨_, h1, rfl, h2⟩)) ?_
      rintro x8 w8 ⟨rfl, hr8, hb8⟩
      rw [← hg0] at hb8
      have st8 := st0.below hb8
      have hs8 := (HSd.out.below hb8).add hr8 (fun e he => by (rw [← hg0]; exact (HSd.out.eb e he).lt)) (by rw [← hg0]; exact HSd.out.lt)
      have HS8 : Hid (TwS q t W nm (.slice a0 n0 p0) (.slice a1 n1 p1) (.slice al L cl) [.string nm, (.slice none 0 0), (.slice none 0 0), (.slice none 0 0), (.slice none 0 0), (.slice none 0 0), (.slice none 0 0), (.slice none 0 0)] [(g0, p.b0)] w8) := hs8
      refine hK _ _ st8 ?_
      simp only [Act.put, List.setIfInBounds_toArray, List.set_cons_zero, List.set_cons_succ]
      clear hK K CR hr8 hb8 hs8 HSd
      refine Go.Pin.takeQ 9 (by simp only [List.getElem?_toArray, List.getElem?_cons_zero, List.getElem?_cons_succ]; exact rfl) (by kernel_rfl) (by kernel_rfl) (by kernel_rfl) (by rfl) (fun _ _ d _ _ h => by cases d <;> exact h) (st8) (hSq).out (by kernel_rfl) ?_
      intro Kq hKq
      go_big_quiet_op
      go_big_quiet_on
      refine Go.Pin.readyQ 10 (by simp only [List.getElem?_toArray, List.getElem?_cons_zero, List.getElem?_cons_succ]; exact rfl) (by kernel_rfl) (by kernel_rfl) ?_
      intro K hK
      have k8 := HS8.out.cell (j := 4) rfl
      have f8 := HS8.out.fz 4
      have hs9 := HS8.out.set 4 (.slice (some ⟨g0, 0, none⟩) (n0 + 9) (n0 + 9))
      have HS9 : Hid (TwS q t W nm (.slice a0 n0 p0) (.slice a1 n1 p1) (.slice al L cl) [.string nm, (.slice none 0 0), (.slice none 0 0), (.slice none 0 0), (.slice (some ⟨g0, 0, none⟩) (n0 + 9) (n0 + 9)), (.slice none 0 0), (.slice none 0 0), (.slice none 0 0)] [(g0, p.b0)] (w8.setCell ⟨t, 4, none⟩ (.slice (some ⟨g0, 0, none⟩) (n0 + 9) (n0 + 9)))) := hs9
      refine wpSkpU (d := none) (w' := w8.setCell ⟨t, 4, none⟩ (.slice (some ⟨g0, 0, none⟩) (n0 + 9) (n0 + 9))) rfl (by unfold execOp; go_simp) (hK _ _ HS9.out.pb ?_)
      simp only [Act.put, List.setIfInBounds_toArray, List.set_cons_zero, List.set_cons_succ]
      clear hK K
      refine wpAnyH_done (by kernel_rfl) ?_ _
      obtain ⟨w9, hw9⟩ : ∃ w9, w8.setCell ⟨t, 4, none⟩ (.slice (some ⟨g0, 0, none⟩) (n0 + 9) (n0 + 9)) = w9 := ⟨_, rfl⟩
      rw [hw9] at HS9 ⊢
      have k9 := HS9.out.cell (j := 4) rfl
      have k8' := HS9.out.cell (j := 1) rfl
      have c9 := HS9.out.pb.c1
      have f9 := HS9.out.fz 1
      have hsA := HS9.out.set 1 (.slice (some ⟨g0, 0, none⟩) n0 (n0 + 9))
      have HSA : Hid (TwS q t W nm (.slice a0 n0 p0) (.slice a1 n1 p1) (.slice al L cl) [.string nm, (.slice (some ⟨g0, 0, none⟩) n0 (n0 + 9)), (.slice none 0 0), (.slice none 0 0), (.slice (some ⟨g0, 0, none⟩) (n0 + 9) (n0 + 9)), (.slice none 0 0), (.slice none 0 0), (.slice none 0 0)] [(g0, p.b0)] (w9.setCell ⟨t, 1, none⟩ (.slice (some ⟨g0, 0, none⟩) n0 (n0 + 9)))) := hsA
      have bn : (0 : Int) ≤ (n0 : Int) := by omega
      have bn9 : (n0 : Int) ≤ (n0 : Int) + 9 := by omega
      clear hs9 hsA hw9 k8 f8 st8 st0 hRq hSq hNq y1 hg0 HS8 HS0
      go_upto_region 6 with (fail)
      go_region
      go_wp2
      exact ⟨.inr (.inl ⟨rfl, g0, HSA.out.below (drew_below (Below.refl _ _))⟩), by decide⟩
    · have HS0 : Hid (TwS q t W nm (.slice a0 n0 p0) (.slice a1 n1 p1) (.slice al L cl) [.string nm, (.slice (some ⟨g0, 0, none⟩) n0 (n0 + 9)), (.slice none 0 0), (.slice none 0 0), (.slice (some ⟨g0, 0, none⟩) (n0 + 9) (n0 + 9)), (.slice none 0 0), (.slice none 0 0), (.slice none 0 0)] [(g0, p.b0)] wr) := hs
      have st0 : PB q W nm (.slice a0 n0 p0) (.slice a1 n1 p1) (.slice al L cl) wr.drew := hs.pb.below (drew_below (Below.refl _ _))
      clear hs
      go_upto_region 5 with (fail)
      refine Go.Pin.wp_region_hcls (fun Y => PB q W nm (.slice a0 n0 p0) (.slice a1 n1 p1) (.slice al L cl) Y) 11 (by rfl) (by kernel_rfl) st0 ?_
      intro Sq fq hNq hRq hSq
      have y1 := fun x => (hRq x).c2
      have HSd : Hid (TwS q t W nm (.slice a0 n0 p0) (.slice a1 n1 p1) (.slice al L cl) [.string nm, (.slice (some ⟨g0, 0, none⟩) n0 (n0 + 9)), (.slice none 0 0), (.slice none 0 0), (.slice (some ⟨g0, 0, none⟩) (n0 + 9) (n0 + 9)), (.slice none 0 0), (.slice none 0 0), (.slice none 0 0)] [(g0, p.b0)] wr.drew) := HS0.out.below (drew_below (Below.refl _ _))
      obtain ⟨wd, hwd⟩ : ∃ wd, wr.drew = wd := ⟨_, rfl⟩
      rw [hwd] at st0 HSd ⊢
      clear hwd
      refine Go.Pin.takeQ 0 (by simp only [List.getElem?_toArray, List.getElem?_cons_zero, List.getElem?_cons_succ]; exact rfl) (by kernel_rfl) (by kernel_rfl) (by kernel_rfl) (by rfl) (fun _ _ d _ _ h => by cases d <;> exact h) (st0) (hSq).out (by kernel_rfl) ?_
      intro Kq hKq
      go_big_quiet_op
      go_big_quiet_on
      refine Go.Pin.takeQ 1 (by simp only [List.getElem?_toArray, List.getElem?_cons_zero, List.getElem?_cons_succ]; exact rfl) (by kernel_rfl) (by kernel_rfl) (by kernel_rfl) (by rfl) (fun _ _ d _ _ h => by cases d <;> exact h) (st0) (hSq).out (by kernel_rfl) ?_
      intro Kq hKq
      go_big_quiet_op
      go_big_quiet_on
      refine Go.Pin.takeQ 2 (by simp only [List.getElem?_toArray, List.getElem?_cons_zero, List.getElem?_cons_succ]; exact rfl) (by kernel_rfl) (by kernel_rfl) (by kernel_rfl) (by rfl) (fun _ _ d _ _ h => by cases d <;> exact h) (st0) (hSq).out (by kernel_rfl) ?_
      intro Kq hKq
      go_big_quiet_op
      go_big_quiet_on
      refine Go.Pin.takeQ 3 (by simp only [List.getElem?_toArray, List.getElem?_cons_zero, List.getElem?_cons_succ]; exact rfl) (by kernel_rfl) (by kernel_rfl) (by kernel_rfl) (by rfl) (fun _ _ d _ _ h => by cases d <;> exact h) (st0) (hSq).out (by kernel_rfl) ?_
      intro Kq hKq
      go_big_quiet_op
      go_big_quiet_on
      refine Go.Pin.takeQ 4 (by simp only [List.getElem?_toArray, List.getElem?_cons_zero, List.getElem?_cons_succ]; exact rfl) (by kernel_rfl) (by kernel_rfl) (by kernel_rfl) (by rfl) (fun _ _ d _ _ h => by cases d <;> exact h) (st0) (hSq).out (by kernel_rfl) ?_
      intro Kq hKq
      go_big_quiet_op
      go_big_quiet_on
      refine Go.Pin.takeQ 5 (by simp only [List.getElem?_toArray, List.getElem?_cons_zero, List.getElem?_cons_succ]; exact rfl) (by kernel_rfl) (by kernel_rfl) (by kernel_rfl) (by rfl) (fun _ _ d _ _ h => by cases d <;> exact h) (st0) (hSq).out (by kernel_rfl) ?_
      intro Kq hKq
      go_big_quiet_op
      go_big_quiet_on
      refine takeV 7 (.pointer (some ⟨t, 0, none⟩)) (by simp only [List.getElem?_toArray, List.getElem?_cons_zero, List.getElem?_cons_succ]; exact rfl) (by kernel_rfl) (by kernel_rfl) (by kernel_rfl) (fun _ _ d _ _ h => by cases d <;> exact h) (st0) (by kernel_rfl) (fun Yq hYq => by unfold execOp; go_simp) ?_
      simp only [Act.put, List.setIfInBounds_toArray, List.set_cons_zero, List.set_cons_succ]
      refine Go.Pin.takeQ 8 (by simp only [List.getElem?_toArray, List.getElem?_cons_zero, List.getElem?_cons_succ]; exact rfl) (by kernel_rfl) (by kernel_rfl) (by kernel_rfl) (by rfl) (fun _ _ d _ _ h => by cases d <;> exact h) (st0) (hSq).out (by kernel_rfl) ?_
      intro Kq hKq
      go_big_quiet_op
      go_big_quiet_on
      have CR := HH1.out wd st0.old
      obtain ⟨g1, hg1⟩ : ∃ g1, wd.heap.size = g1 := ⟨_, rfl⟩
      rw [hg1] at CR
      refine Go.Pin.readyQ 6 (by simp only [List.getElem?_toArray, List.getElem?_cons_zero, List.getElem?_cons_succ]; exact rfl) (by kernel_rfl) (by kernel_rfl) ?_
      intro K hK
      refine wpCallU (d := some 23) (f := 22) (R := fun x w8 => x = .slice (some ⟨g1, 0, none⟩) (n1 + 9) (n1 + 9) ∧ RwB g1 (rm p.b1) w8 ∧ Below g1 wd w8) rfl rfl (args := #[.slice a1 n1 p1]) (by simp only [List.map_toArray, List.map_cons, List.map_nil]; rfl) (fun _ => rfl) (CR.mono (fun e w8 ⟨h1, h2⟩ => ⟨_, h1, rfl, h2⟩)) ?_
      rintro x8 w8 ⟨rfl, hr8, hb8⟩
      rw [← hg1] at hb8
      have st8 := st0.below hb8
      have hs8 := (HSd.out.below hb8).add hr8 (fun e he => by (rw [← hg1]; exact (HSd.out.eb e he).lt)) (by rw [← hg1]; exact HSd.out.lt)
      have HS8 : Hid (TwS q t W nm (.slice a0 n0 p0) (.slice a1 n1 p1) (.slice al L cl) [.string nm, (.slice (some ⟨g0, 0, none⟩) n0 (n0 + 9)), (.slice none 0 0), (.slice none 0 0), (.slice (some ⟨g0, 0, none⟩) (n0 + 9) (n0 + 9)), (.slice none 0 0), (.slice none 0 0), (.slice none 0 0)] [(g0, p.b0), (g1, p.b1)] w8) := hs8
      refine hK _ _ st8 ?_
      simp only [Act.put, List.setIfInBounds_toArray, List.set_cons_zero, List.set_cons_succ]
      clear hK K CR hr8 hb8 hs8 HSd
      refine Go.Pin.takeQ 9 (by simp only [List.getElem?_toArray, List.getElem?_cons_zero, List.getElem?_cons_succ]; exact rfl) (by kernel_rfl) (by kernel_rfl) (by kernel_rfl) (by rfl) (fun _ _ d _ _ h => by cases d <;> exact h) (st8) (hSq).out (by kernel_rfl) ?_
      intro Kq hKq
      go_big_quiet_op
      go_big_quiet_on
      refine Go.Pin.readyQ 10 (by simp only [List.getElem?_toArray, List.getElem?_cons_zero, List.getElem?_cons_succ]; exact rfl) (by kernel_rfl) (by kernel_rfl) ?_
      intro K hK
      have k8 := HS8.out.cell (j := 5) rfl
      have f8 := HS8.out.fz 5
      have hs9 := HS8.out.set 5 (.slice (some ⟨g1, 0, none⟩) (n1 + 9) (n1 + 9))
      have HS9 : Hid (TwS q t W nm (.slice a0 n0 p0) (.slice a1 n1 p1) (.slice al L cl) [.string nm, (.slice (some ⟨g0, 0, none⟩) n0 (n0 + 9)), (.slice none 0 0), (.slice none 0 0), (.slice (some ⟨g0, 0, none⟩) (n0 + 9) (n0 + 9)), (.slice (some ⟨g1, 0, none⟩) (n1 + 9) (n1 + 9)), (.slice none 0 0), (.slice none 0 0)] [(g0, p.b0), (g1, p.b1)] (w8.setCell ⟨t, 5, none⟩ (.slice (some ⟨g1, 0, none⟩) (n1 + 9) (n1 + 9)))) := hs9
      refine wpSkpU (d := none) (w' := w8.setCell ⟨t, 5, none⟩ (.slice (some ⟨g1, 0, none⟩) (n1 + 9) (n1 + 9))) rfl (by unfold execOp; go_simp) (hK _ _ HS9.out.pb ?_)
      simp only [Act.put, List.setIfInBounds_toArray, List.set_cons_zero, List.set_cons_succ]
      clear hK K
      refine wpAnyH_done (by kernel_rfl) ?_ _
      obtain ⟨w9, hw9⟩ : ∃ w9, w8.setCell ⟨t, 5, none⟩ (.slice (some ⟨g1, 0, none⟩) (n1 + 9) (n1 + 9)) = w9 := ⟨_, rfl⟩
      rw [hw9] at HS9 ⊢
      have k9 := HS9.out.cell (j := 5) rfl
      have k8' := HS9.out.cell (j := 2) rfl
      have c9 := HS9.out.pb.c2
      have f9 := HS9.out.fz 2
      have hsA := HS9.out.set 2 (.slice (some ⟨g1, 0, none⟩) n1 (n1 + 9))
      have HSA : Hid (TwS q t W nm (.slice a0 n0 p0) (.slice a1 n1 p1) (.slice al L cl) [.string nm, (.slice (some ⟨g0, 0, none⟩) n0 (n0 + 9)), (.slice (some ⟨g1, 0, none⟩) n1 (n1 + 9)), (.slice none 0 0), (.slice (some ⟨g0, 0, none⟩) (n0 + 9) (n0 + 9)), (.slice (some ⟨g1, 0, none⟩) (n1 + 9) (n1 + 9)), (.slice none 0 0), (.slice none 0 0)] [(g0, p.b0), (g1, p.b1)] (w9.setCell ⟨t, 2, none⟩ (.slice (some ⟨g1, 0, none⟩) n1 (n1 + 9)))) := hsA
      have bn : (0 : Int) ≤ (n1 : Int) := by omega
      have bn9 : (n1 : Int) ≤ (n1 : Int) + 9 := by omega
      clear hs9 hsA hw9 k8 f8 st8 st0 hRq hSq hNq y1 hg1 HS8 HS0
      go_upto_region 6 with (fail)
      go_region
      go_wp2
      exact ⟨.inr (.inr ⟨rfl, g0, g1, HSA.out.below (drew_below (Below.refl _ _))⟩), by decide⟩
    · have HS2 : Hid (TwS q t W nm (.slice a0 n0 p0) (.slice a1 n1 p1) (.slice al L cl) [.string nm, (.slice (some ⟨g0, 0, none⟩) n0 (n0 + 9)), (.slice (some ⟨g1, 0, none⟩) n1 (n1 + 9)), (.slice none 0 0), (.slice (some ⟨g0, 0, none⟩) (n0 + 9) (n0 + 9)), (.slice (some ⟨g1, 0, none⟩) (n1 + 9) (n1 + 9)), (.slice none 0 0), (.slice none 0 0)] [(g0, p.b0), (g1, p.b1)] wr) := hs
      clear hs
      go_upto_region 8 with (fail)
      go_loopw [5] (fun v5 wy => ∃ (i : Nat) (B : List Nat) (aL : Option Addr) (cL : Nat) (aT : Option Addr) (cT : Nat), i ≤ L ∧ B.length = i ∧ v5 = .int .i64 i ∧ TwS q t W nm (.slice a0 n0 p0) (.slice a1 n1 p1) (.slice al L cl) [.string nm, (.slice (some ⟨g0, 0, none⟩) n0 (n0 + 9)), (.slice (some ⟨g1, 0, none⟩) n1 (n1 + 9)), (.slice none 0 0), (.slice (some ⟨g0, 0, none⟩) (n0 + 9) (n0 + 9)), (.slice (some ⟨g1, 0, none⟩) (n1 + 9) (n1 + 9)), (.slice aL i cL), (.slice aT i cT)] ([(g0, p.b0), (g1, p.b1)] ++ lmw (p.ln.take i) B) wy ∧ TwL t (.slice aL i cL) (.slice aT i cT) (lcw (lfw (p.ln.take i) B)) (twv (p.ln.take i) B) i i wy) (fun v _ => L - (intOf v).toNat)
      case atStart => exact ⟨0, [], none, 0, none, 0, Nat.zero_le _, rfl, rfl, by simpa [lmw] using HS2.out, ⟨rfl, .inl ⟨rfl, rfl⟩⟩, ⟨rfl, .inl ⟨rfl, rfl⟩⟩⟩
      case round =>
        obtain ⟨i, B, aL, cL, aT, cT, hi, hB, rfl, hs, hl⟩ := hrel
        have HSi : Hid (TwS q t W nm (.slice a0 n0 p0) (.slice a1 n1 p1) (.slice al L cl) [.string nm, (.slice (some ⟨g0, 0, none⟩) n0 (n0 + 9)), (.slice (some ⟨g1, 0, none⟩) n1 (n1 + 9)), (.slice none 0 0), (.slice (some ⟨g0, 0, none⟩) (n0 + 9) (n0 + 9)), (.slice (some ⟨g1, 0, none⟩) (n1 + 9) (n1 + 9)), (.slice aL i cL), (.slice aT i cT)] ([(g0, p.b0), (g1, p.b1)] ++ lmw (p.ln.take i) B) wr) := hs
        have HLi : Hid (TwL t (.slice aL i cL) (.slice aT i cT) (lcw (lfw (p.ln.take i) B)) (twv (p.ln.take i) B) i i wr) := hl
        have HIB : Hid (i ≤ L ∧ B.length = i) := ⟨hi, hB⟩
        have c3 := hs.pb.c3
        by_cases hlt : i < L
        · have b1 : (i : Int) < (L : Int) := by omega
          obtain ⟨b, o, a2, n2, c2, rfl, hc, hn, hn2⟩ := (HHL.out W (Below.refl _ _)).at hlt
          rw [hq] at hc
          have x1 := (hc wr hs.pb.old).2
          obtain ⟨fr, hfr⟩ : ∃ fr, (p.ln.getD i (0, [])).1 = fr := ⟨_, rfl⟩
          obtain ⟨ts, hts⟩ : ∃ ts, (p.ln.getD i (0, [])).2 = ts := ⟨_, rfl⟩
          have hts2 : ts.length ≤ 200 := by rw [← hts]; exact HS.out.2.2.2 i hlt
          rw [hts] at hn hn2
          subst hn2
          have HCL : Hid (∀ Y, Below q W Y → Y.cell? ⟨b, o + i * 2, none⟩ = some (.int .i64 fr) ∧ Y.cell? ⟨b, o + i * 2 + 1, none⟩ = some (.slice a2 ts.length c2)) := fun Y hY => by (have := hc Y hY; rw [hfr] at this; exact this)
          have CR := room_any (hn.below (by rw [hq]; exact hs.pb.old)) hts2
          have HFT : Hid ((p.ln.getD i (0, [])).1 = fr ∧ (p.ln.getD i (0, [])).2 = ts ∧ i < L ∧ ts.length ≤ 200) := ⟨hfr, hts, hlt, hts2⟩
          obtain ⟨r, hr⟩ : ∃ r, wr.heap.size = r := ⟨_, rfl⟩
          rw [hr] at CR
          have HRW : Hid (wr.heap.size = r) := hr
          obtain ⟨m, hm⟩ : ∃ m, ts.length = m := ⟨_, rfl⟩
          rw [hm] at CR x1 HCL
          have HM : Hid (ts.length = m) := hm
          clear hs hl hi hB hc hn hfr hts hts2 hlt hr hm
          go_upto_region 11 with (go_at_call 22; go_loud (refine Calls.mono CR ?_; clear CR; rintro e w2 ⟨rfl, hr2, hb2⟩; rw [← HRW.out] at hb2; have HB2 : Hid (Below wr.heap.size wr w2) := hb2; have HS2' : Hid (TwS q t W nm (.slice a0 n0 p0) (.slice a1 n1 p1) (.slice (some ⟨b, o, none⟩) L cl) [.string nm, (.slice (some ⟨g0, 0, none⟩) n0 (n0 + 9)), (.slice (some ⟨g1, 0, none⟩) n1 (n1 + 9)), (.slice none 0 0), (.slice (some ⟨g0, 0, none⟩) (n0 + 9) (n0 + 9)), (.slice (some ⟨g1, 0, none⟩) (n1 + 9) (n1 + 9)), (.slice aL i cL), (.slice aT i cT)] (([(g0, p.b0), (g1, p.b1)] ++ lmw (p.ln.take i) B) ++ [(r, ts)]) w2) := (HSi.out.below hb2).add hr2 (fun e he => by (have := (HSi.out.eb e he).lt; rw [HRW.out] at this; exact this)) (by have := HSi.out.lt; rw [HRW.out] at this; exact this); have HL2 : Hid (TwL t (.slice aL i cL) (.slice aT i cT) (lcw (lfw (p.ln.take i) B)) (twv (p.ln.take i) B) i i w2) := HLi.out.below hb2; clear hb2 hr2 c3 x1))
          have k7 := HS2'.out.cell (j := 7) rfl
          go_upto_region 12 with (at_builtin; go_loud (refine wpList_app _ rfl _ _ 35 35 rfl _ _ rfl rfl (TwL.tok HS2'.out HL2.out rfl (by have := HFT.out; have := HS.out; omega)) ?_; rintro v7 w3 ⟨hs3, hl3⟩; (obtain ⟨aT', cT', rfl⟩ := own_slice' hl3.ro); have HS3 : Hid (TwS q t W nm (.slice a0 n0 p0) (.slice a1 n1 p1) (.slice (some ⟨b, o, none⟩) L cl) [.string nm, (.slice (some ⟨g0, 0, none⟩) n0 (n0 + 9)), (.slice (some ⟨g1, 0, none⟩) n1 (n1 + 9)), (.slice none 0 0), (.slice (some ⟨g0, 0, none⟩) (n0 + 9) (n0 + 9)), (.slice (some ⟨g1, 0, none⟩) (n1 + 9) (n1 + 9)), (.slice aL i cL), (.slice aT i cT)] (([(g0, p.b0), (g1, p.b1)] ++ lmw (p.ln.take i) B) ++ [(r, ts)]) w3) := hs3; have HL3 : Hid (TwL t (.slice aL i cL) (.slice aT' (i + 1) cT') (lcw (lfw (p.ln.take i) B)) (twv (p.ln.take i) B ++ [.slice (some ⟨r, 0, none⟩) (m + 9) (m + 9)]) i (i + 1) w3) := hl3; have k7' := HS3.out.cell (j := 7) rfl; have f7 := HS3.out.fz 7; clear hs3 hl3 k7))
          have HS4 : Hid (TwS q t W nm (.slice a0 n0 p0) (.slice a1 n1 p1) (.slice (some ⟨b, o, none⟩) L cl) [.string nm, (.slice (some ⟨g0, 0, none⟩) n0 (n0 + 9)), (.slice (some ⟨g1, 0, none⟩) n1 (n1 + 9)), (.slice none 0 0), (.slice (some ⟨g0, 0, none⟩) (n0 + 9) (n0 + 9)), (.slice (some ⟨g1, 0, none⟩) (n1 + 9) (n1 + 9)), (.slice aL i cL), (.slice aT' (i + 1) cT')] (([(g0, p.b0), (g1, p.b1)] ++ lmw (p.ln.take i) B) ++ [(r, ts)]) (w3.setCell ⟨t, 7, none⟩ (.slice aT' (i + 1) cT'))) := HS3.out.set 7 _
          have HL4 : Hid (TwL t (.slice aL i cL) (.slice aT' (i + 1) cT') (lcw (lfw (p.ln.take i) B)) (twv (p.ln.take i) B ++ [.slice (some ⟨r, 0, none⟩) (m + 9) (m + 9)]) i (i + 1) (w3.setCell ⟨t, 7, none⟩ (.slice aT' (i + 1) cT'))) := HL3.out.set 7 _
          obtain ⟨w4, hw4⟩ : ∃ w4, w3.setCell ⟨t, 7, none⟩ (.slice aT' (i + 1) cT') = w4 := ⟨_, rfl⟩
          rw [hw4] at HS4 HL4
          simp only [hw4]
          have HS5 : Hid (TwS q t W nm (.slice a0 n0 p0) (.slice a1 n1 p1) (.slice (some ⟨b, o, none⟩) L cl) [.string nm, (.slice (some ⟨g0, 0, none⟩) n0 (n0 + 9)), (.slice (some ⟨g1, 0, none⟩) n1 (n1 + 9)), (.slice none 0 0), (.slice (some ⟨g0, 0, none⟩) (n0 + 9) (n0 + 9)), (.slice (some ⟨g1, 0, none⟩) (n1 + 9) (n1 + 9)), (.slice aL i cL), (.slice aT' (i + 1) cT')] (([(g0, p.b0), (g1, p.b1)] ++ lmw (p.ln.take i) B) ++ [(r, ts)]) w4.drew) := HS4.out.below (drew_below (Below.refl _ _))
          have HL5 : Hid (TwL t (.slice aL i cL) (.slice aT' (i + 1) cT') (lcw (lfw (p.ln.take i) B)) (twv (p.ln.take i) B ++ [.slice (some ⟨r, 0, none⟩) (m + 9) (m + 9)]) i (i + 1) w4.drew) := HL4.out.below (drew_below (Below.refl _ _))
          have st0 : PB q W nm (.slice a0 n0 p0) (.slice a1 n1 p1) (.slice (some ⟨b, o, none⟩) L cl) w4.drew ∧ w4.drew.cell? ⟨t, 6, none⟩ = some (.slice aL i cL) := ⟨HS5.out.pb, HS5.out.cell (j := 6) rfl⟩
          have bi0 : (0 : Int) ≤ (i : Int) := by omega
          have bm0 : (0 : Int) ≤ (m : Int) := by omega
          have bm9 : (m : Int) ≤ (m : Int) + 9 := by omega
          clear hw4 HS3 HL3 HS2' HL2 k7' f7 HS4 HL4
          refine Go.Pin.wp_region_L (fun Y => PB q W nm (.slice a0 n0 p0) (.slice a1 n1 p1) (.slice (some ⟨b, o, none⟩) L cl) Y ∧ Y.cell? ⟨t, 6, none⟩ = some (.slice aL i cL)) 25 26 (by rfl) (by kernel_rfl) st0 ?_
          intro Sq fq hNq hRq hSq
          have y3 := fun x => (hRq x).1.c3
          have y6 := fun x => (hRq x).2
          have z0 := fun x => (HCL.out (fq x) (hRq x).1.old).1
          have z1 := fun x => (HCL.out (fq x) (hRq x).1.old).2
          obtain ⟨wd, hwd⟩ : ∃ wd, w4.drew = wd := ⟨_, rfl⟩
          rw [hwd] at st0 HS5 HL5 ⊢
          clear hwd
          refine Go.Pin.takeL 0 (by simp only [List.getElem?_toArray, List.getElem?_cons_zero, List.getElem?_cons_succ]; exact rfl) (by simp only [List.getElem?_toArray, List.getElem?_cons_zero, List.getElem?_cons_succ]; exact rfl) (by kernel_rfl) (by kernel_rfl) (by kernel_rfl) (by kernel_rfl) (by rfl) (fun _ _ d _ _ h => by cases d <;> exact h) (st0) (hSq).out (by kernel_rfl) ?_
          intro Kq hKq
          go_big_quiet_op
          go_big_quiet_on
          refine Go.Pin.takeL 1 (by simp only [List.getElem?_toArray, List.getElem?_cons_zero, List.getElem?_cons_succ]; exact rfl) (by simp only [List.getElem?_toArray, List.getElem?_cons_zero, List.getElem?_cons_succ]; exact rfl) (by kernel_rfl) (by kernel_rfl) (by kernel_rfl) (by kernel_rfl) (by rfl) (fun _ _ d _ _ h => by cases d <;> exact h) (st0) (hSq).out (by kernel_rfl) ?_
          intro Kq hKq
          go_big_quiet_op
          go_big_quiet_on
          refine takeLV 2 (.pointer (some ⟨t, 0, none⟩)) (by simp only [List.getElem?_toArray, List.getElem?_cons_zero, List.getElem?_cons_succ]; exact rfl) (by simp only [List.getElem?_toArray, List.getElem?_cons_zero, List.getElem?_cons_succ]; exact rfl) (by kernel_rfl) (by kernel_rfl) (by kernel_rfl) (by kernel_rfl) (fun _ _ d _ _ h => by cases d <;> exact h) (st0) (by kernel_rfl) (fun Yq hYq => by unfold execOp; go_simp) ?_
          simp only [Act.put, List.setIfInBounds_toArray, List.set_cons_zero, List.set_cons_succ]
          refine Go.Pin.takeL 3 (by simp only [List.getElem?_toArray, List.getElem?_cons_zero, List.getElem?_cons_succ]; exact rfl) (by simp only [List.getElem?_toArray, List.getElem?_cons_zero, List.getElem?_cons_succ]; exact rfl) (by kernel_rfl) (by kernel_rfl) (by kernel_rfl) (by kernel_rfl) (by rfl) (fun _ _ d _ _ h => by cases d <;> exact h) (st0) (hSq).out (by kernel_rfl) ?_
          intro Kq hKq
          go_big_quiet_op
          go_big_quiet_on
          refine Go.Pin.takeL 4 (by simp only [List.getElem?_toArray, List.getElem?_cons_zero, List.getElem?_cons_succ]; exact rfl) (by simp only [List.getElem?_toArray, List.getElem?_cons_zero, List.getElem?_cons_succ]; exact rfl) (by kernel_rfl) (by kernel_rfl) (by kernel_rfl) (by kernel_rfl) (by rfl) (fun _ _ d _ _ h => by cases d <;> exact h) (st0) (hSq).out (by kernel_rfl) ?_
          intro Kq hKq
          go_big_quiet_op
          go_big_quiet_on
          refine Go.Pin.takeL 5 (by simp only [List.getElem?_toArray, List.getElem?_cons_zero, List.getElem?_cons_succ]; exact rfl) (by simp only [List.getElem?_toArray, List.getElem?_cons_zero, List.getElem?_cons_succ]; exact rfl) (by kernel_rfl) (by kernel_rfl) (by kernel_rfl) (by kernel_rfl) (by rfl) (fun _ _ d _ _ h => by cases d <;> exact h) (st0) (hSq).out (by kernel_rfl) ?_
          intro Kq hKq
          go_big_quiet_op
          go_big_quiet_on
          refine Go.Pin.takeL 6 (by simp only [List.getElem?_toArray, List.getElem?_cons_zero, List.getElem?_cons_succ]; exact rfl) (by simp only [List.getElem?_toArray, List.getElem?_cons_zero, List.getElem?_cons_succ]; exact rfl) (by kernel_rfl) (by kernel_rfl) (by kernel_rfl) (by kernel_rfl) (by rfl) (fun _ _ d _ _ h => by cases d <;> exact h) (st0) (hSq).out (by kernel_rfl) ?_
          intro Kq hKq
          go_big_quiet_op
          go_big_quiet_on
          refine Go.Pin.takeL 7 (by simp only [List.getElem?_toArray, List.getElem?_cons_zero, List.getElem?_cons_succ]; exact rfl) (by simp only [List.getElem?_toArray, List.getElem?_cons_zero, List.getElem?_cons_succ]; exact rfl) (by kernel_rfl) (by kernel_rfl) (by kernel_rfl) (by kernel_rfl) (by rfl) (fun _ _ d _ _ h => by cases d <;> exact h) (st0) (hSq).out (by kernel_rfl) ?_
          intro Kq hKq
          go_big_quiet_op
          go_big_quiet_on
          refine Go.Pin.takeL 8 (by simp only [List.getElem?_toArray, List.getElem?_cons_zero, List.getElem?_cons_succ]; exact rfl) (by simp only [List.getElem?_toArray, List.getElem?_cons_zero, List.getElem?_cons_succ]; exact rfl) (by kernel_rfl) (by kernel_rfl) (by kernel_rfl) (by kernel_rfl) (by rfl) (fun _ _ d _ _ h => by cases d <;> exact h) (st0) (hSq).out (by kernel_rfl) ?_
          intro Kq hKq
          go_big_quiet_op
          go_big_quiet_on
          refine Go.Pin.takeL 9 (by simp only [List.getElem?_toArray, List.getElem?_cons_zero, List.getElem?_cons_succ]; exact rfl) (by simp only [List.getElem?_toArray, List.getElem?_cons_zero, List.getElem?_cons_succ]; exact rfl) (by kernel_rfl) (by kernel_rfl) (by kernel_rfl) (by kernel_rfl) (by rfl) (fun _ _ d _ _ h => by cases d <;> exact h) (st0) (hSq).out (by kernel_rfl) ?_
          intro Kq hKq
          go_big_quiet_op
          go_big_quiet_on
          refine Go.Pin.takeL 10 (by simp only [List.getElem?_toArray, List.getElem?_cons_zero, List.getElem?_cons_succ]; exact rfl) (by simp only [List.getElem?_toArray, List.getElem?_cons_zero, List.getElem?_cons_succ]; exact rfl) (by kernel_rfl) (by kernel_rfl) (by kernel_rfl) (by kernel_rfl) (by rfl) (fun _ _ d _ _ h => by cases d <;> exact h) (st0) (hSq).out (by kernel_rfl) ?_
          intro Kq hKq
          go_big_quiet_op
          go_big_quiet_on
          refine Go.Pin.takeL 11 (by simp only [List.getElem?_toArray, List.getElem?_cons_zero, List.getElem?_cons_succ]; exact rfl) (by simp only [List.getElem?_toArray, List.getElem?_cons_zero, List.getElem?_cons_succ]; exact rfl) (by kernel_rfl) (by kernel_rfl) (by kernel_rfl) (by kernel_rfl) (by rfl) (fun _ _ d _ _ h => by cases d <;> exact h) (st0) (hSq).out (by kernel_rfl) ?_
          intro Kq hKq
          go_big_quiet_op
          go_big_quiet_on
          refine Go.Pin.takeL 12 (by simp only [List.getElem?_toArray, List.getElem?_cons_zero, List.getElem?_cons_succ]; exact rfl) (by simp only [List.getElem?_toArray, List.getElem?_cons_zero, List.getElem?_cons_succ]; exact rfl) (by kernel_rfl) (by kernel_rfl) (by kernel_rfl) (by kernel_rfl) (by rfl) (fun _ _ d _ _ h => by cases d <;> exact h) (st0) (hSq).out (by kernel_rfl) ?_
          intro Kq hKq
          go_big_quiet_op
          go_big_quiet_on
          refine Go.Pin.takeL 13 (by simp only [List.getElem?_toArray, List.getElem?_cons_zero, List.getElem?_cons_succ]; exact rfl) (by simp only [List.getElem?_toArray, List.getElem?_cons_zero, List.getElem?_cons_succ]; exact rfl) (by kernel_rfl) (by kernel_rfl) (by kernel_rfl) (by kernel_rfl) (by rfl) (fun _ _ d _ _ h => by cases d <;> exact h) (st0) (hSq).out (by kernel_rfl) ?_
          intro Kq hKq
          go_big_quiet_op
          go_big_quiet_on
          refine Go.Pin.takeL 14 (by simp only [List.getElem?_toArray, List.getElem?_cons_zero, List.getElem?_cons_succ]; exact rfl) (by simp only [List.getElem?_toArray, List.getElem?_cons_zero, List.getElem?_cons_succ]; exact rfl) (by kernel_rfl) (by kernel_rfl) (by kernel_rfl) (by kernel_rfl) (by rfl) (fun _ _ d _ _ h => by cases d <;> exact h) (st0) (hSq).out (by kernel_rfl) ?_
          intro Kq hKq
          go_big_quiet_op
          go_big_quiet_on
          refine Go.Pin.takeL 15 (by simp only [List.getElem?_toArray, List.getElem?_cons_zero, List.getElem?_cons_succ]; exact rfl) (by simp only [List.getElem?_toArray, List.getElem?_cons_zero, List.getElem?_cons_succ]; exact rfl) (by kernel_rfl) (by kernel_rfl) (by kernel_rfl) (by kernel_rfl) (by rfl) (fun _ _ d _ _ h => by cases d <;> exact h) (st0) (hSq).out (by kernel_rfl) ?_
          intro Kq hKq
          go_big_quiet_op
          go_big_quiet_on
          refine Go.Pin.takeL 16 (by simp only [List.getElem?_toArray, List.getElem?_cons_zero, List.getElem?_cons_succ]; exact rfl) (by simp only [List.getElem?_toArray, List.getElem?_cons_zero, List.getElem?_cons_succ]; exact rfl) (by kernel_rfl) (by kernel_rfl) (by kernel_rfl) (by kernel_rfl) (by rfl) (fun _ _ d _ _ h => by cases d <;> exact h) (st0) (hSq).out (by kernel_rfl) ?_
          intro Kq hKq
          go_big_quiet_op
          go_big_quiet_on
          refine Go.Pin.takeL 17 (by simp only [List.getElem?_toArray, List.getElem?_cons_zero, List.getElem?_cons_succ]; exact rfl) (by simp only [List.getElem?_toArray, List.getElem?_cons_zero, List.getElem?_cons_succ]; exact rfl) (by kernel_rfl) (by kernel_rfl) (by kernel_rfl) (by kernel_rfl) (by rfl) (fun _ _ d _ _ h => by cases d <;> exact h) (st0) (hSq).out (by kernel_rfl) ?_
          intro Kq hKq
          go_big_quiet_op
          go_big_quiet_on
          refine Go.Pin.takeL 18 (by simp only [List.getElem?_toArray, List.getElem?_cons_zero, List.getElem?_cons_succ]; exact rfl) (by simp only [List.getElem?_toArray, List.getElem?_cons_zero, List.getElem?_cons_succ]; exact rfl) (by kernel_rfl) (by kernel_rfl) (by kernel_rfl) (by kernel_rfl) (by rfl) (fun _ _ d _ _ h => by cases d <;> exact h) (st0) (hSq).out (by kernel_rfl) ?_
          intro Kq hKq
          go_big_quiet_op
          go_big_quiet_on
          refine takeLV 19 (.slice (some ⟨r, 0, none⟩) m (m + 9)) (by simp only [List.getElem?_toArray, List.getElem?_cons_zero, List.getElem?_cons_succ]; exact rfl) (by simp only [List.getElem?_toArray, List.getElem?_cons_zero, List.getElem?_cons_succ]; exact rfl) (by kernel_rfl) (by kernel_rfl) (by kernel_rfl) (by kernel_rfl) (fun _ _ d _ _ h => by cases d <;> exact h) (st0) (by kernel_rfl) (fun Yq hYq => by unfold execOp; go_simp) ?_
          simp only [Act.put, List.setIfInBounds_toArray, List.set_cons_zero, List.set_cons_succ]
          refine Go.Pin.takeL 20 (by simp only [List.getElem?_toArray, List.getElem?_cons_zero, List.getElem?_cons_succ]; exact rfl) (by simp only [List.getElem?_toArray, List.getElem?_cons_zero, List.getElem?_cons_succ]; exact rfl) (by kernel_rfl) (by kernel_rfl) (by kernel_rfl) (by kernel_rfl) (by rfl) (fun _ _ d _ _ h => by cases d <;> exact h) (st0) (hSq).out (by kernel_rfl) ?_
          intro Kq hKq
          go_big_quiet_op
          go_big_quiet_on
          refine Go.Pin.readyL 21 (by simp only [List.getElem?_toArray, List.getElem?_cons_zero, List.getElem?_cons_succ]; exact rfl) (by kernel_rfl) (by kernel_rfl) ?_
          intro K hK
          have hal := (Below.refl wd.heap.size wd).alloc (Nat.le_refl _) (.cells #[.int .i64 fr, .slice (some ⟨r, 0, none⟩) m (m + 9)] 43)
          have hS6 := HS5.out.below hal
          have st6 : PB q W nm (.slice a0 n0 p0) (.slice a1 n1 p1) (.slice (some ⟨b, o, none⟩) L cl) (wd.alloc (.cells #[.int .i64 fr, .slice (some ⟨r, 0, none⟩) m (m + 9)] 43)) ∧ (wd.alloc (.cells #[.int .i64 fr, .slice (some ⟨r, 0, none⟩) m (m + 9)] 43)).cell? ⟨t, 6, none⟩ = some (.slice aL i cL) := ⟨hS6.pb, hS6.cell (j := 6) rfl⟩
          refine wpRun (d := some 90) (v := .slice (some ⟨wd.heap.size, 0, none⟩) 1 1) (w' := wd.alloc (.cells #[.int .i64 fr, .slice (some ⟨r, 0, none⟩) m (m + 9)] 43)) rfl (by unfold execOp; go_simp) (hK _ _ (.inr st6) ?_)
          simp only [Act.put, List.setIfInBounds_toArray, List.set_cons_zero, List.set_cons_succ]
          clear hK K
          have happ := TwL.line HS5.out HL5.out (m := 1) (news := [.int .i64 fr, .slice (some ⟨r, 0, none⟩) m (m + 9)]) rfl (fun u hu => by simp at hu; rcases hu with rfl | rfl <;> rfl) (by have := HFT.out; have := HS.out; omega) (by decide)
          refine Go.Pin.readyL 22 (by simp only [List.getElem?_toArray, List.getElem?_cons_zero, List.getElem?_cons_succ]; exact rfl) (by kernel_rfl) (by kernel_rfl) ?_
          intro K hK
          refine wpApp (d := some 91) (v := .slice aL i cL) (u := .slice (some ⟨wd.heap.size, 0, none⟩) 1 1) rfl rfl rfl rfl happ ?_
          rintro v7 w7 ⟨hs7, hl7⟩
          obtain ⟨aL', cL', rfl⟩ := own_slice' hl7.lo
          have st7 : PB q W nm (.slice a0 n0 p0) (.slice a1 n1 p1) (.slice (some ⟨b, o, none⟩) L cl) w7 ∧ w7.cell? ⟨t, 6, none⟩ = some (.slice aL i cL) := ⟨hs7.pb, hs7.cell (j := 6) rfl⟩
          refine hK _ _ (.inr st7) ?_
          simp only [Act.put, List.setIfInBounds_toArray, List.set_cons_zero, List.set_cons_succ]
          clear hK K happ hal hS6 st6
          refine Go.Pin.readyL 23 (by simp only [List.getElem?_toArray, List.getElem?_cons_zero, List.getElem?_cons_succ]; exact rfl) (by kernel_rfl) (by kernel_rfl) ?_
          intro K hK
          refine wpRun (d := some 92) (v := .pointer (some ⟨t, 0, none⟩)) (w' := w7) rfl (by unfold execOp; go_simp) (hK _ _ (.inr st7) ?_)
          simp only [Act.put, List.setIfInBounds_toArray, List.set_cons_zero, List.set_cons_succ]
          clear hK K
          refine Go.Pin.takeL 24 (by simp only [List.getElem?_toArray, List.getElem?_cons_zero, List.getElem?_cons_succ]; exact rfl) (by simp only [List.getElem?_toArray, List.getElem?_cons_zero, List.getElem?_cons_succ]; exact rfl) (by kernel_rfl) (by kernel_rfl) (by kernel_rfl) (by kernel_rfl) (by rfl) (fun _ _ d _ _ h => by cases d <;> exact h) (st7) (hSq).out (by kernel_rfl) ?_
          intro Kq hKq
          go_big_quiet_op
          go_big_quiet_on
          refine Go.Pin.readyL 25 (by simp only [List.getElem?_toArray, List.getElem?_cons_zero, List.getElem?_cons_succ]; exact rfl) (by kernel_rfl) (by kernel_rfl) ?_
          intro K hK
          have e7 := st7.2
          have f7 := hs7.fz 6
          unfold Oper.wp execOp
          go_simp
          refine hK _ _ (.inl rfl) ?_
          clear hK K
          refine Go.Pin.wpL_done (by kernel_rfl) ?_
          have HS8 : Hid (TwS q t W nm (.slice a0 n0 p0) (.slice a1 n1 p1) (.slice (some ⟨b, o, none⟩) L cl) [.string nm, (.slice (some ⟨g0, 0, none⟩) n0 (n0 + 9)), (.slice (some ⟨g1, 0, none⟩) n1 (n1 + 9)), (.slice none 0 0), (.slice (some ⟨g0, 0, none⟩) (n0 + 9) (n0 + 9)), (.slice (some ⟨g1, 0, none⟩) (n1 + 9) (n1 + 9)), (.slice aL' (i + 1) cL'), (.slice aT' (i + 1) cT')] (([(g0, p.b0), (g1, p.b1)] ++ lmw (p.ln.take i) B) ++ [(r, ts)]) (w7.setCell ⟨t, 6, none⟩ (.slice aL' (i + 1) cL'))) := hs7.set 6 _
          have HL8 : Hid (TwL t (.slice aL' (i + 1) cL') (.slice aT' (i + 1) cT') (lcw (lfw (p.ln.take i) B) ++ [.int .i64 fr, .slice (some ⟨r, 0, none⟩) m (m + 9)]) (twv (p.ln.take i) B ++ [.slice (some ⟨r, 0, none⟩) (m + 9) (m + 9)]) (i + 1) (i + 1) (w7.setCell ⟨t, 6, none⟩ (.slice aL' (i + 1) cL'))) := hl7.set 6 _
          obtain ⟨w8, hw8⟩ : ∃ w8, w7.setCell ⟨t, 6, none⟩ (.slice aL' (i + 1) cL') = w8 := ⟨_, rfl⟩
          rw [hw8] at HS8 HL8 ⊢
          clear hw8 hs7 hl7 st7 e7 f7 st0 hRq hSq hNq y3 y6 z0 z1 HS5 HL5
          go_wp2
          have hlp : i < p.ln.length := by rw [HL.out.1]; exact HFT.out.2.2.1
          have hm := HM.out
          refine ⟨⟨i + 1, B ++ [r], aL', cL', aT', cT', HFT.out.2.2.1, by simp [HIB.out.2], congrArg (Value.int .i64) (wrapS HFT.out.2.2.1 (by have := HS.out; omega)), ?_, ?_⟩, measS HFT.out.2.2.1 (by have := HS.out; omega)⟩
          · have h := HS8.out
            rw [List.append_assoc] at h
            rw [lmw, zipW _ p.ln hlp HIB.out.2, HFT.out.2.1]
            exact h
          · have h := HL8.out
            rw [lfw, zipW _ p.ln hlp HIB.out.2, lcw_snoc, twv, zipW _ p.ln hlp HIB.out.2, HFT.out.1, HFT.out.2.1]
            simp only [tkv, whv, hm]
            exact h
        · obtain rfl : i = L := by omega
          have b1 : ¬ (i : Int) < (i : Int) := by omega
          have k6 := hs.cell (j := 6) rfl
          have htk : p.ln.take i = p.ln := List.take_of_length_le (by rw [HL.out.1]; exact Nat.le_refl _)
          rw [htk] at HSi HLi
          have HLP : Hid (p.ln.length = i ∧ B.length = i) := ⟨HL.out.1, hB⟩
          clear hs hl hi hB hlt htk
          go_upto_region 15 with (at_builtin; go_loud (refine wpList_app _ rfl _ _ 24 24 rfl _ _ rfl rfl (TwL.line HSi.out HLi.out (m := 2) (news := [.int .i64 71, .slice none 0 0, .int .i64 72, .slice none 0 0]) rfl (fun u hu => by (simp at hu; rcases hu with rfl | rfl | rfl | rfl <;> rfl)) (by have := HS.out; omega) (by decide)) ?_; rintro v7 w3 ⟨hs3, hl3⟩; (obtain ⟨gl, cl', rfl⟩ : ∃ gl cl', v7 = .slice (some ⟨gl, 0, none⟩) (i + 2) cl' := by (rcases hl3.lo.2 with ⟨_, h0⟩ | ⟨g, c, cur, e, _⟩; omega; exact ⟨g, c, e⟩)); have HS3 : Hid (TwS q t W nm (.slice a0 n0 p0) (.slice a1 n1 p1) (.slice al i cl) [.string nm, (.slice (some ⟨g0, 0, none⟩) n0 (n0 + 9)), (.slice (some ⟨g1, 0, none⟩) n1 (n1 + 9)), (.slice none 0 0), (.slice (some ⟨g0, 0, none⟩) (n0 + 9) (n0 + 9)), (.slice (some ⟨g1, 0, none⟩) (n1 + 9) (n1 + 9)), (.slice aL i cL), (.slice aT i cT)] ([(g0, p.b0), (g1, p.b1)] ++ lmw p.ln B) w3) := hs3; have HL3 : Hid (TwL t (.slice (some ⟨gl, 0, none⟩) (i + 2) cl') (.slice aT i cT) (lcw (lfw p.ln B) ++ [.int .i64 71, .slice none 0 0, .int .i64 72, .slice none 0 0]) (twv p.ln B) (i + 2) i w3) := hl3; have k6' := HS3.out.cell (j := 6) rfl; have f6 := HS3.out.fz 6; clear hs3 hl3 k6))
          have HS4 : Hid (TwS q t W nm (.slice a0 n0 p0) (.slice a1 n1 p1) (.slice al i cl) [.string nm, (.slice (some ⟨g0, 0, none⟩) n0 (n0 + 9)), (.slice (some ⟨g1, 0, none⟩) n1 (n1 + 9)), (.slice none 0 0), (.slice (some ⟨g0, 0, none⟩) (n0 + 9) (n0 + 9)), (.slice (some ⟨g1, 0, none⟩) (n1 + 9) (n1 + 9)), (.slice (some ⟨gl, 0, none⟩) (i + 2) cl'), (.slice aT i cT)] ([(g0, p.b0), (g1, p.b1)] ++ lmw p.ln B) (w3.setCell ⟨t, 6, none⟩ (.slice (some ⟨gl, 0, none⟩) (i + 2) cl'))) := HS3.out.set 6 _
          have HL4 : Hid (TwL t (.slice (some ⟨gl, 0, none⟩) (i + 2) cl') (.slice aT i cT) (lcw (lfw p.ln B) ++ [.int .i64 71, .slice none 0 0, .int .i64 72, .slice none 0 0]) (twv p.ln B) (i + 2) i (w3.setCell ⟨t, 6, none⟩ (.slice (some ⟨gl, 0, none⟩) (i + 2) cl'))) := HL3.out.set 6 _
          obtain ⟨w4, hw4⟩ : ∃ w4, w3.setCell ⟨t, 6, none⟩ (.slice (some ⟨gl, 0, none⟩) (i + 2) cl') = w4 := ⟨_, rfl⟩
          rw [hw4] at HS4 HL4
          simp only [hw4]
          have k6 := HS4.out.cell (j := 6) rfl
          have k3 := HS4.out.cell (j := 3) rfl
          have f3 := HS4.out.fz 3
          have HS5 : Hid (TwS q t W nm (.slice a0 n0 p0) (.slice a1 n1 p1) (.slice al i cl) [.string nm, (.slice (some ⟨g0, 0, none⟩) n0 (n0 + 9)), (.slice (some ⟨g1, 0, none⟩) n1 (n1 + 9)), (.slice (some ⟨gl, 0, none⟩) i cl'), (.slice (some ⟨g0, 0, none⟩) (n0 + 9) (n0 + 9)), (.slice (some ⟨g1, 0, none⟩) (n1 + 9) (n1 + 9)), (.slice (some ⟨gl, 0, none⟩) (i + 2) cl'), (.slice aT i cT)] ([(g0, p.b0), (g1, p.b1)] ++ lmw p.ln B) (w4.setCell ⟨t, 3, none⟩ (.slice (some ⟨gl, 0, none⟩) i cl'))) := HS4.out.set 3 _
          have HL5 : Hid (TwL t (.slice (some ⟨gl, 0, none⟩) (i + 2) cl') (.slice aT i cT) (lcw (lfw p.ln B) ++ [.int .i64 71, .slice none 0 0, .int .i64 72, .slice none 0 0]) (twv p.ln B) (i + 2) i (w4.setCell ⟨t, 3, none⟩ (.slice (some ⟨gl, 0, none⟩) i cl'))) := HL4.out.set 3 _
          have hcl : i ≤ cl' ∧ i + 2 ≤ cl' := by
            rcases HL4.out.lo.2 with ⟨e, _⟩ | ⟨g, c, cur, e, _, _, h3, _⟩
            · cases e
            · injection e with _ _ e; omega
          have bc : (i : Int) ≤ (cl' : Int) := by omega
          have bi : (0 : Int) ≤ (i : Int) := by omega
          clear hw4 HS3 HL3 k6' f6
          have hx := HL5.out.lo
          have e2 : lcw (lfw p.ln B) ++ [.int .i64 71, .slice none 0 0, .int .i64 72, .slice none 0 0] = lcw (lfw p.ln B ++ [(71, .slice none 0 0), (72, .slice none 0 0)]) := by simp [lcw]
          rw [e2] at hx
          have HTW : Hid (TwP p t nm g0 g1 B gl cl' (.slice aT i cT) (w4.setCell ⟨t, 3, none⟩ (.slice (some ⟨gl, 0, none⟩) i cl'))) := by
            show TwP _ _ _ _ _ _ _ _ _ _
            unfold TwP
            simp only [tkv, whv, HL.out.2.1, HL.out.2.2, HLP.out.1]
            exact ⟨HS5.out.bx, HS5.out.eb, HS5.out.nd, HLP.out.2, hx, HL5.out.ro⟩
          have HTG : Hid (TwG p t g0 g1 B) := HS5.out.gt
          clear hx e2
          go_wp2
          go_ret
          exact ⟨t, rfl, Nat.le_of_lt HS5.out.qt, g0, g1, B, ⟨gl, cl', .slice aT i cT, HTW.out⟩, HTG.out, HS5.out.pb.old⟩
end Go.Proofs.YtjhleocpipmklaaDoor
