import Derived.Deep.DeepCutAuto
import Derived.Test.YtmlcgcmoioekpabGreatDoorMqbe
import Derived.Test.YtmlcgcmoioekpabGreatDoorMqbc
namespace Go.Proofs.YtmlcgcmoioekpabGreatDoor
set_option linter.unusedSimpArgs false
set_option linter.unusedVariables false
set_option maxRecDepth 100000
open Go.ChangeShapes Go.WideShapes Go.ChangeAt Go.RowKit Go.Pin Go.Pat Go.Deep
theorem shp_alt : ∀ (L : List Ln) (q : Option Int) (n : Nat), shp q n L = true → (∀ f, q = some f → L ≠ [] → (L.getD 0 (0, [])).1 ≠ f) ∧ ∀ i, 0 < i → i < L.length → (L.getD i (0, [])).1 ≠ (L.getD (i - 1) (0, [])).1
  | [], _, _, _ => ⟨fun _ _ h => absurd rfl h, fun i _ h => nomatch h⟩
  | (f, ts) :: r, q, n, h => by
    rw [shp_split] at h
    simp only [Bool.and_eq_true, decide_eq_true_eq] at h
    obtain ⟨h1, h2⟩ := shp_alt r _ _ h.2
    refine ⟨fun g hg _ e => h.1.1.1.1.2 ?_, fun i hi hl => ?_⟩
    · rw [hg, ← e]; rfl
    · match i, hi with
      | 1, _ => exact h1 f rfl (by intro e; rw [e] at hl; simp at hl)
      | i + 2, _ =>
        have := h2 (i + 1) (by omega) (by simp at hl; omega)
        exact this
def OW (q : Nat) (W : World) (v0 v1 vl : Value) (p : Pt) (y : World) : Prop := Below q W y ∧ BX q v0 v1 vl p y
theorem OW.on {q : Nat} {W y y' : World} {v0 v1 vl : Value} {p : Pt} (h : OW q W v0 v1 vl p y) (hb : Below y.heap.size y y') : OW q W v0 v1 vl p y' := ⟨h.1.trans (hb.mono (Nat.le_of_lt h.2.lt)), h.2.below hb⟩
set_option maxHeartbeats 8000000 in
theorem once_true (v : Value) (p : Pt) (W : World) (hR : RdP W v p) (h : OnP p) :
    Calls Tryz.prog 14 #[v] W fun e w' => e = .returned (.bool true) ∧ Below W.heap.size W w' := by
  obtain ⟨a0, p0, a1, p1, al, cv, rfl⟩ := rdp_sl hR
  have hst := bx_new W hR
  have hal : Below W.heap.size W (W.alloc (.cells #[.string p.nm, .slice a0 p.b0.length p0, .slice a1 p.b1.length p1, .slice al p.ln.length cv] 26)) := (Below.refl _ _).alloc (Nat.le_refl _) _
  obtain ⟨q, hq⟩ : ∃ q, W.heap.size = q := ⟨_, rfl⟩
  obtain ⟨n0, hn0⟩ : ∃ n0, p.b0.length = n0 := ⟨_, rfl⟩
  obtain ⟨n1, hn1⟩ : ∃ n1, p.b1.length = n1 := ⟨_, rfl⟩
  obtain ⟨nl, hnl⟩ : ∃ nl, p.ln.length = nl := ⟨_, rfl⟩
  obtain ⟨m0, m1, m2, m3, m4⟩ := shaped_all h.sh
  rw [hnl] at m2 m3
  simp only [hn0, hn1, hnl] at hst hal ⊢
  obtain ⟨W1, hW1⟩ : ∃ W1, W.alloc (.cells #[.string p.nm, .slice a0 n0 p0, .slice a1 n1 p1, .slice al nl cv] 26) = W1 := ⟨_, rfl⟩
  simp only [hq, hW1] at hst hal ⊢
  obtain ⟨v0, hv0⟩ : ∃ v, Value.slice a0 n0 p0 = v := ⟨_, rfl⟩
  obtain ⟨v1, hv1⟩ : ∃ v, Value.slice a1 n1 p1 = v := ⟨_, rfl⟩
  have HB : Hid (OW q W (.slice a0 n0 p0) (.slice a1 n1 p1) (.slice al nl cv) p W1) := ⟨hal, hst⟩
  have HCN : Hid (∀ (side t : Int) (y : World), OW q W (.slice a0 n0 p0) (.slice a1 n1 p1) (.slice al nl cv) p y → Calls Tryz.prog 40 #[.agg #[.string p.nm, .slice a0 n0 p0, .slice a1 n1 p1, .slice al nl cv], .int .i64 side, .int .i64 t] y fun e w' => e = .returned (.int .i64 (cntP p side t)) ∧ Below y.heap.size y w') := fun side t y hy => count_any _ p side t y hy.2.rd h.sh
  have HAT : Hid (∀ y, OW q W (.slice a0 n0 p0) (.slice a1 n1 p1) (.slice al nl cv) p y → ∀ j, j < nl → ∃ b o, al = some ⟨b, o, none⟩ ∧ y.cell? ⟨b, o + j * 2, none⟩ = some (.int .i64 (p.ln.getD j (0, [])).1)) := fun y hy j hj => by
    obtain ⟨u0, u1, ul, e, r0, r1, rl⟩ := hy.2.rd
    injection e with e
    simp only [Array.mk.injEq, List.cons.injEq, and_true] at e
    obtain ⟨_, e0, e1, el⟩ := e
    subst e0 e1 el
    obtain ⟨b, o, a2, n2, c2, h1, h2, _, _⟩ := rl.at (j := j) hj
    exact ⟨b, o, h1, (h2 y (Below.refl _ _)).1⟩
  have HO : Hid (OnP p) := h
  have HNL : Hid (p.ln.length = nl ∧ 0 < nl ∧ nl ≤ 24 ∧ W.heap.size = q) := ⟨hnl, m2, m3, hq⟩
  have d0 := hst.c0
  have d1 := hst.c1
  have d2 := hst.c2
  have d3 := hst.c3
  have x1 : ¬ ((cntP p 0 1 : Nat) : Int) > 1 := by have := h.e0.1; omega
  have x2 : ¬ ((cntP p 0 2 : Nat) : Int) > 1 := by have := h.e0.2; omega
  have x3 : ¬ ((cntP p 1 1 : Nat) : Int) > 1 := by have := h.e1.1; omega
  have x4 : ¬ ((cntP p 1 2 : Nat) : Int) > 1 := by have := h.e1.2; omega
  clear hst hal hR h hn0 hn1 hnl hv0 hv1 m0 m1 m2 m3 m4
  go_enter Tryz.func14, Tryz.ntmps14
  go_wp2
  clear hW1
  go_loopw [3] (fun v3 y => (v3 = .int .i64 0 ∨ v3 = .int .i64 1 ∨ v3 = .int .i64 2) ∧ OW q W (.slice a0 n0 p0) (.slice a1 n1 p1) (.slice al nl cv) p y) (fun v _ => 2 - (intOf v).toNat)
  case atStart => exact ⟨.inl rfl, HB.out⟩
  case round =>
    obtain ⟨hv, hw⟩ := hrel
    clear HB d0 d1 d2 d3
    have HB : Hid (OW q W (.slice a0 n0 p0) (.slice a1 n1 p1) (.slice al nl cv) p wr) := hw
    have d0 := hw.2.c0
    have d1 := hw.2.c1
    have d2 := hw.2.c2
    have d3 := hw.2.c3
    clear hw
    rcases hv with rfl | rfl | rfl
    · go_wp2_with (go_at_call 40; refine Calls.mono (HCN.out _ _ _ HB.out) ?_; rintro e y ⟨rfl, hb⟩; have hn := HB.out.on hb; clear HB hb d0 d1 d2 d3; have HB : Hid (OW q W (.slice a0 n0 p0) (.slice a1 n1 p1) (.slice al nl cv) p y) := hn; clear hn; have d0 := HB.out.2.c0; have d1 := HB.out.2.c1; have d2 := HB.out.2.c2; have d3 := HB.out.2.c3)
      exact ⟨⟨.inr (.inl rfl), HB.out⟩, by decide⟩
    · go_wp2_with (go_at_call 40; refine Calls.mono (HCN.out _ _ _ HB.out) ?_; rintro e y ⟨rfl, hb⟩; have hn := HB.out.on hb; clear HB hb d0 d1 d2 d3; have HB : Hid (OW q W (.slice a0 n0 p0) (.slice a1 n1 p1) (.slice al nl cv) p y) := hn; clear hn; have d0 := HB.out.2.c0; have d1 := HB.out.2.c1; have d2 := HB.out.2.c2; have d3 := HB.out.2.c3)
      exact ⟨⟨.inr (.inr rfl), HB.out⟩, by decide⟩
    · clear x1 x2 x3 x4
      have x3 : ¬ ((cntP p (-1) 3 : Nat) : Int) > 1 := by have := HO.out.k; omega
      have x4 : ¬ ((cntP p (-1) 4 : Nat) : Int) > 1 := by have := HO.out.k; omega
      have x5 : ¬ ((cntP p (-1) 5 : Nat) : Int) > 1 := by have := HO.out.k; omega
      have x6 : ¬ ((cntP p (-1) 6 : Nat) : Int) > 1 := by have := HO.out.k; omega
      go_upto_region 8 with (go_at_call 40; refine Calls.mono (HCN.out _ _ _ HB.out) ?_; rintro e y ⟨rfl, hb⟩; have hn := HB.out.on hb; clear HB hb d0 d1 d2 d3; have HB : Hid (OW q W (.slice a0 n0 p0) (.slice a1 n1 p1) (.slice al nl cv) p y) := hn; clear hn; have d0 := HB.out.2.c0; have d1 := HB.out.2.c1; have d2 := HB.out.2.c2; have d3 := HB.out.2.c3)
      clear x3 x4 x5 x6
      go_cut [65] (fun v y => v = .bool false ∧ OW q W (.slice a0 n0 p0) (.slice a1 n1 p1) (.slice al nl cv) p y)
      case first =>
        by_cases h3 : cntP p (-1) 3 = 1
        · have g3 := HO.out.ee h3
          have y301 : cntP p 0 1 = 1 := by have := HO.out.e0; omega
          have y311 : cntP p 1 1 = 1 := by have := HO.out.e1; omega
          clear g3
          by_cases h6 : cntP p (-1) 6 = 1
          · have g6 := HO.out.ss h6
            have y602 : cntP p 0 2 = 1 := by have := HO.out.e0; omega
            have y612 : cntP p 1 2 = 1 := by have := HO.out.e1; omega
            clear g6
            go_wp2_with (go_at_call 40; refine Calls.mono (HCN.out _ _ _ HB.out) ?_; rintro e y ⟨rfl, hb⟩; have hn := HB.out.on hb; clear HB hb d0 d1 d2 d3; have HB : Hid (OW q W (.slice a0 n0 p0) (.slice a1 n1 p1) (.slice al nl cv) p y) := hn; clear hn; have d0 := HB.out.2.c0; have d1 := HB.out.2.c1; have d2 := HB.out.2.c2; have d3 := HB.out.2.c3)
            go_meet
            exact ⟨rfl, HB.out⟩
          · have z6 : cntP p (-1) 6 = 0 := by have := HO.out.k; omega
            clear h6
            go_wp2_with (go_at_call 40; refine Calls.mono (HCN.out _ _ _ HB.out) ?_; rintro e y ⟨rfl, hb⟩; have hn := HB.out.on hb; clear HB hb d0 d1 d2 d3; have HB : Hid (OW q W (.slice a0 n0 p0) (.slice a1 n1 p1) (.slice al nl cv) p y) := hn; clear hn; have d0 := HB.out.2.c0; have d1 := HB.out.2.c1; have d2 := HB.out.2.c2; have d3 := HB.out.2.c3)
            go_meet
            exact ⟨rfl, HB.out⟩
        · have z3 : cntP p (-1) 3 = 0 := by have := HO.out.k; omega
          clear h3
          by_cases h6 : cntP p (-1) 6 = 1
          · have g6 := HO.out.ss h6
            have y602 : cntP p 0 2 = 1 := by have := HO.out.e0; omega
            have y612 : cntP p 1 2 = 1 := by have := HO.out.e1; omega
            clear g6
            go_wp2_with (go_at_call 40; refine Calls.mono (HCN.out _ _ _ HB.out) ?_; rintro e y ⟨rfl, hb⟩; have hn := HB.out.on hb; clear HB hb d0 d1 d2 d3; have HB : Hid (OW q W (.slice a0 n0 p0) (.slice a1 n1 p1) (.slice al nl cv) p y) := hn; clear hn; have d0 := HB.out.2.c0; have d1 := HB.out.2.c1; have d2 := HB.out.2.c2; have d3 := HB.out.2.c3)
            go_meet
            exact ⟨rfl, HB.out⟩
          · have z6 : cntP p (-1) 6 = 0 := by have := HO.out.k; omega
            clear h6
            go_wp2_with (go_at_call 40; refine Calls.mono (HCN.out _ _ _ HB.out) ?_; rintro e y ⟨rfl, hb⟩; have hn := HB.out.on hb; clear HB hb d0 d1 d2 d3; have HB : Hid (OW q W (.slice a0 n0 p0) (.slice a1 n1 p1) (.slice al nl cv) p y) := hn; clear hn; have d0 := HB.out.2.c0; have d1 := HB.out.2.c1; have d2 := HB.out.2.c2; have d3 := HB.out.2.c3)
            go_meet
            exact ⟨rfl, HB.out⟩
      obtain ⟨rfl, hw⟩ := hcut
      clear HB d0 d1 d2 d3
      have HB : Hid (OW q W (.slice a0 n0 p0) (.slice a1 n1 p1) (.slice al nl cv) p wc) := hw
      have d0 := hw.2.c0
      have d1 := hw.2.c1
      have d2 := hw.2.c2
      have d3 := hw.2.c3
      clear hw
      go_upto_region 10 with (fail)
      go_cut [93] (fun v y => v = .bool false ∧ OW q W (.slice a0 n0 p0) (.slice a1 n1 p1) (.slice al nl cv) p y)
      case first =>
        by_cases h4 : cntP p (-1) 4 = 1
        · have g4 := HO.out.es h4
          have y401 : cntP p 0 1 = 1 := by have := HO.out.e0; omega
          have y412 : cntP p 1 2 = 1 := by have := HO.out.e1; omega
          clear g4
          by_cases h5 : cntP p (-1) 5 = 1
          · have g5 := HO.out.se h5
            have y502 : cntP p 0 2 = 1 := by have := HO.out.e0; omega
            have y511 : cntP p 1 1 = 1 := by have := HO.out.e1; omega
            clear g5
            go_wp2_with (go_at_call 40; refine Calls.mono (HCN.out _ _ _ HB.out) ?_; rintro e y ⟨rfl, hb⟩; have hn := HB.out.on hb; clear HB hb d0 d1 d2 d3; have HB : Hid (OW q W (.slice a0 n0 p0) (.slice a1 n1 p1) (.slice al nl cv) p y) := hn; clear hn; have d0 := HB.out.2.c0; have d1 := HB.out.2.c1; have d2 := HB.out.2.c2; have d3 := HB.out.2.c3)
            go_meet
            exact ⟨rfl, HB.out⟩
          · have z5 : cntP p (-1) 5 = 0 := by have := HO.out.k; omega
            clear h5
            go_wp2_with (go_at_call 40; refine Calls.mono (HCN.out _ _ _ HB.out) ?_; rintro e y ⟨rfl, hb⟩; have hn := HB.out.on hb; clear HB hb d0 d1 d2 d3; have HB : Hid (OW q W (.slice a0 n0 p0) (.slice a1 n1 p1) (.slice al nl cv) p y) := hn; clear hn; have d0 := HB.out.2.c0; have d1 := HB.out.2.c1; have d2 := HB.out.2.c2; have d3 := HB.out.2.c3)
            go_meet
            exact ⟨rfl, HB.out⟩
        · have z4 : cntP p (-1) 4 = 0 := by have := HO.out.k; omega
          clear h4
          by_cases h5 : cntP p (-1) 5 = 1
          · have g5 := HO.out.se h5
            have y502 : cntP p 0 2 = 1 := by have := HO.out.e0; omega
            have y511 : cntP p 1 1 = 1 := by have := HO.out.e1; omega
            clear g5
            go_wp2_with (go_at_call 40; refine Calls.mono (HCN.out _ _ _ HB.out) ?_; rintro e y ⟨rfl, hb⟩; have hn := HB.out.on hb; clear HB hb d0 d1 d2 d3; have HB : Hid (OW q W (.slice a0 n0 p0) (.slice a1 n1 p1) (.slice al nl cv) p y) := hn; clear hn; have d0 := HB.out.2.c0; have d1 := HB.out.2.c1; have d2 := HB.out.2.c2; have d3 := HB.out.2.c3)
            go_meet
            exact ⟨rfl, HB.out⟩
          · have z5 : cntP p (-1) 5 = 0 := by have := HO.out.k; omega
            clear h5
            go_wp2_with (go_at_call 40; refine Calls.mono (HCN.out _ _ _ HB.out) ?_; rintro e y ⟨rfl, hb⟩; have hn := HB.out.on hb; clear HB hb d0 d1 d2 d3; have HB : Hid (OW q W (.slice a0 n0 p0) (.slice a1 n1 p1) (.slice al nl cv) p y) := hn; clear hn; have d0 := HB.out.2.c0; have d1 := HB.out.2.c1; have d2 := HB.out.2.c2; have d3 := HB.out.2.c3)
            go_meet
            exact ⟨rfl, HB.out⟩
      obtain ⟨rfl, hw⟩ := hcut
      clear HB d0 d1 d2 d3
      have HB : Hid (OW q W (.slice a0 n0 p0) (.slice a1 n1 p1) (.slice al nl cv) p wc) := hw
      have d0 := hw.2.c0
      have d1 := hw.2.c1
      have d2 := hw.2.c2
      have d3 := hw.2.c3
      clear hw
      go_wp2
      go_loopw [4] (fun v4 y => (∃ i : Nat, 1 ≤ i ∧ i ≤ nl ∧ v4 = .int .i64 i) ∧ OW q W (.slice a0 n0 p0) (.slice a1 n1 p1) (.slice al nl cv) p y) (fun v _ => nl - (intOf v).toNat)
      case atStart => exact ⟨⟨1, Nat.le_refl _, HNL.out.2.1, rfl⟩, HB.out⟩
      case round =>
        obtain ⟨⟨i, h1, hi, rfl⟩, hw⟩ := hrel
        clear HB d0 d1 d2 d3
        have HB : Hid (OW q W (.slice a0 n0 p0) (.slice a1 n1 p1) (.slice al nl cv) p wr) := hw
        have d0 := hw.2.c0
        have d1 := hw.2.c1
        have d2 := hw.2.c2
        have d3 := hw.2.c3
        clear hw
        by_cases hlt : i < nl
        · obtain ⟨b, o, rfl, hc1⟩ := HAT.out _ HB.out i hlt
          obtain ⟨b', o', e, hc2⟩ := HAT.out _ HB.out (i - 1) (by omega)
          injection e with e
          injection e with e1 e2
          subst e1 e2
          have hal := (shp_alt p.ln none 0 (shaped_lines HO.out.sh).2.2.2).2 i (by omega) (by have := HNL.out; omega)
          obtain ⟨j, rfl⟩ : ∃ j, i = j + 1 := ⟨i - 1, by omega⟩
          simp only [Nat.add_sub_cancel] at hc2 hal
          obtain ⟨f, hf⟩ : ∃ f, (p.ln.getD (j + 1) (0, [])).1 = f := ⟨_, rfl⟩
          obtain ⟨g, hg⟩ : ∃ g, (p.ln.getD j (0, [])).1 = g := ⟨_, rfl⟩
          rw [hf] at hc1 hal
          rw [hg] at hc2 hal
          have HLT : Hid (j + 1 < nl ∧ f ≠ g) := ⟨hlt, hal⟩
          have f1 : (f == g) = false := by simpa using hal
          have f2 : decide (f = g) = false := by simpa using hal
          have b1 : (j : Int) + 1 < nl := by omega
          have b2 : (0 : Int) ≤ (j : Int) := by omega
          have b3 : (nl : Int) ≤ 24 := by have := HNL.out; omega
          have b4 : (j : Int) < nl := by omega
          clear hf hg hal hlt hi h1
          go_wp2
          go_region
          go_wp2
          exact ⟨⟨⟨j + 2, by omega, HLT.out.1, congrArg (Value.int .i64) (by omega)⟩, HB.out.on ((Below.refl _ _).drew)⟩, by have := HLT.out.1; show nl - ((j : Int) + 1 + 1).toNat < nl - (((j + 1 : Nat) : Int)).toNat; omega⟩
        · obtain rfl : nl = i := by omega
          have b1 : ¬ (nl : Int) < nl := by omega
          clear h1 hi hlt
          go_upto_region 17 with (fail)
          clear b1
          go_cut [5] (fun v y => v = .bool (both p) ∧ OW q W (.slice a0 n0 p0) (.slice a1 n1 p1) (.slice al nl cv) p y)
          case first =>
            by_cases hn : 1 < nl
            · have b2 : (nl : Int) > 1 := by omega
              have b3 : (1 : Int) < nl := by omega
              have HBT : Hid (both p = true) := by
                show both p = true
                unfold both
                rw [HNL.out.1]
                simp [hn]
              clear hn
              go_wp2
              go_meet
              exact ⟨congrArg Value.bool HBT.out.symm, HB.out⟩
            · have b2 : ¬ (nl : Int) > 1 := by omega
              have b3 : ¬ (1 : Int) < nl := by omega
              have hn1 : nl = 1 := by have := HNL.out; omega
              have b4 : (0 : Int) < nl := by omega
              obtain ⟨b, o, rfl, hc1⟩ := HAT.out _ HB.out 0 (by omega)
              simp only [Nat.zero_mul, Nat.add_zero] at hc1
              obtain ⟨f, hf⟩ : ∃ f, (p.ln.getD 0 (0, [])).1 = f := ⟨_, rfl⟩
              rw [hf] at hc1
              have HBT : Hid (both p = decide (f = 1)) := by
                show both p = decide (f = 1)
                unfold both
                rw [HNL.out.1, hf]
                simp [hn]
              have HN1 : Hid (nl = 1) := hn1
              clear hn hf hn1
              by_cases h1 : f = 1
              · have HBU : Hid (both p = true) := by show both p = true; rw [HBT.out]; simpa using h1
                clear HBT
                go_wp2
                go_meet
                exact ⟨congrArg Value.bool HBU.out.symm, HB.out⟩
              · have HBU : Hid (both p = false) := by show both p = false; rw [HBT.out]; simpa using h1
                have f1 : (f == 1) = false := by simpa using h1
                have f2 : decide (f = 1) = false := by simpa using h1
                clear HBT
                go_wp2
                go_meet
                exact ⟨congrArg Value.bool HBU.out.symm, HB.out⟩
          obtain ⟨rfl, hw⟩ := hcut
          clear HB d0 d1 d2 d3
          have HB : Hid (OW q W (.slice a0 n0 p0) (.slice a1 n1 p1) (.slice al nl cv) p wc) := hw
          have d0 := hw.2.c0
          have d1 := hw.2.c1
          have d2 := hw.2.c2
          have d3 := hw.2.c3
          clear hw
          obtain ⟨bb, hbb⟩ : ∃ bb, both p = bb := ⟨_, rfl⟩
          have HBB : Hid (both p = bb) := hbb
          rw [hbb]
          clear hbb
          go_upto_region 18 with (fail)
          go_cut [150] (fun v y => v = .bool false ∧ OW q W (.slice a0 n0 p0) (.slice a1 n1 p1) (.slice al nl cv) p y)
          case first =>
            cases bb with
            | false =>
              go_wp2_with (go_at_call 40; refine Calls.mono (HCN.out _ _ _ HB.out) ?_; rintro e y ⟨rfl, hb⟩; have hn := HB.out.on hb; clear HB hb d0 d1 d2 d3; have HB : Hid (OW q W (.slice a0 n0 p0) (.slice a1 n1 p1) (.slice al nl cv) p y) := hn; clear hn; have d0 := HB.out.2.c0; have d1 := HB.out.2.c1; have d2 := HB.out.2.c2; have d3 := HB.out.2.c3)
              go_meet
              exact ⟨rfl, HB.out⟩
            | true =>
              by_cases h5 : cntP p (-1) 5 = 1
              · have h3 : cntP p (-1) 3 = 1 := by have := HO.out.s1 h5; have := HO.out.k; omega
                by_cases h4 : cntP p (-1) 4 = 1
                · go_wp2_with (go_at_call 40; refine Calls.mono (HCN.out _ _ _ HB.out) ?_; rintro e y ⟨rfl, hb⟩; have hn := HB.out.on hb; clear HB hb d0 d1 d2 d3; have HB : Hid (OW q W (.slice a0 n0 p0) (.slice a1 n1 p1) (.slice al nl cv) p y) := hn; clear hn; have d0 := HB.out.2.c0; have d1 := HB.out.2.c1; have d2 := HB.out.2.c2; have d3 := HB.out.2.c3)
                  go_meet
                  exact ⟨rfl, HB.out⟩
                · have z4 : cntP p (-1) 4 = 0 := by have := HO.out.k; omega
                  clear h4
                  go_wp2_with (go_at_call 40; refine Calls.mono (HCN.out _ _ _ HB.out) ?_; rintro e y ⟨rfl, hb⟩; have hn := HB.out.on hb; clear HB hb d0 d1 d2 d3; have HB : Hid (OW q W (.slice a0 n0 p0) (.slice a1 n1 p1) (.slice al nl cv) p y) := hn; clear hn; have d0 := HB.out.2.c0; have d1 := HB.out.2.c1; have d2 := HB.out.2.c2; have d3 := HB.out.2.c3)
                  go_meet
                  exact ⟨rfl, HB.out⟩
              · have z5 : cntP p (-1) 5 = 0 := by have := HO.out.k; omega
                clear h5
                by_cases h4 : cntP p (-1) 4 = 1
                · have h3 : cntP p (-1) 3 = 1 := by have := HO.out.s2 HBB.out h4; have := HO.out.k; omega
                  go_wp2_with (go_at_call 40; refine Calls.mono (HCN.out _ _ _ HB.out) ?_; rintro e y ⟨rfl, hb⟩; have hn := HB.out.on hb; clear HB hb d0 d1 d2 d3; have HB : Hid (OW q W (.slice a0 n0 p0) (.slice a1 n1 p1) (.slice al nl cv) p y) := hn; clear hn; have d0 := HB.out.2.c0; have d1 := HB.out.2.c1; have d2 := HB.out.2.c2; have d3 := HB.out.2.c3)
                  go_meet
                  exact ⟨rfl, HB.out⟩
                · have z4 : cntP p (-1) 4 = 0 := by have := HO.out.k; omega
                  clear h4
                  go_wp2_with (go_at_call 40; refine Calls.mono (HCN.out _ _ _ HB.out) ?_; rintro e y ⟨rfl, hb⟩; have hn := HB.out.on hb; clear HB hb d0 d1 d2 d3; have HB : Hid (OW q W (.slice a0 n0 p0) (.slice a1 n1 p1) (.slice al nl cv) p y) := hn; clear hn; have d0 := HB.out.2.c0; have d1 := HB.out.2.c1; have d2 := HB.out.2.c2; have d3 := HB.out.2.c3)
                  go_meet
                  exact ⟨rfl, HB.out⟩
          obtain ⟨rfl, hw⟩ := hcut
          clear HB d0 d1 d2 d3
          have HB : Hid (OW q W (.slice a0 n0 p0) (.slice a1 n1 p1) (.slice al nl cv) p wc) := hw
          have d0 := hw.2.c0
          have d1 := hw.2.c1
          have d2 := hw.2.c2
          have d3 := hw.2.c3
          clear hw
          by_cases h6 : cntP p (-1) 6 = 0
          · go_wp2_with (go_at_call 40; refine Calls.mono (HCN.out _ _ _ HB.out) ?_; rintro e y ⟨rfl, hb⟩; have hn := HB.out.on hb; clear HB hb d0 d1 d2 d3; have HB : Hid (OW q W (.slice a0 n0 p0) (.slice a1 n1 p1) (.slice al nl cv) p y) := hn; clear hn; have d0 := HB.out.2.c0; have d1 := HB.out.2.c1; have d2 := HB.out.2.c2; have d3 := HB.out.2.c3)
            go_ret
            exact ⟨rfl, HB.out.1⟩
          · have z6 : cntP p (-1) 6 = 1 := by have := HO.out.k; omega
            have h4 : cntP p (-1) 4 = 1 := by
              rcases HO.out.s3 with g | g
              · exact absurd g h6
              · exact g.1
            cases bb with
            | false =>
              clear h6
              go_wp2_with (go_at_call 40; refine Calls.mono (HCN.out _ _ _ HB.out) ?_; rintro e y ⟨rfl, hb⟩; have hn := HB.out.on hb; clear HB hb d0 d1 d2 d3; have HB : Hid (OW q W (.slice a0 n0 p0) (.slice a1 n1 p1) (.slice al nl cv) p y) := hn; clear hn; have d0 := HB.out.2.c0; have d1 := HB.out.2.c1; have d2 := HB.out.2.c2; have d3 := HB.out.2.c3)
              go_ret
              exact ⟨rfl, HB.out.1⟩
            | true =>
              have h5 : cntP p (-1) 5 = 1 := by
                rcases HO.out.s3 with g | g
                · exact absurd g h6
                · rcases g.2 with g | g
                  · rw [HBB.out] at g; cases g
                  · exact g
              clear h6
              go_wp2_with (go_at_call 40; refine Calls.mono (HCN.out _ _ _ HB.out) ?_; rintro e y ⟨rfl, hb⟩; have hn := HB.out.on hb; clear HB hb d0 d1 d2 d3; have HB : Hid (OW q W (.slice a0 n0 p0) (.slice a1 n1 p1) (.slice al nl cv) p y) := hn; clear hn; have d0 := HB.out.2.c0; have d1 := HB.out.2.c1; have d2 := HB.out.2.c2; have d3 := HB.out.2.c3)
              go_ret
              exact ⟨rfl, HB.out.1⟩
end Go.Proofs.YtmlcgcmoioekpabGreatDoor
namespace Go.Proofs.YtmlcgcmoioekpabGreatDoor
set_option linter.unusedSimpArgs false
set_option linter.unusedVariables false
set_option maxRecDepth 100000
open Go.ChangeShapes Go.WideShapes Go.ChangeAt Go.RowKit Go.Pin Go.Pat Go.Deep
theorem mdf_bad {p : Pt} (ws : List ByteArray) (h : chk p ≠ 0) : mdf p ws = (zPt, chk p) := by
  unfold mdf
  rw [if_pos h]
theorem mdf_ok {p : Pt} {ws : List ByteArray} (h : (mdf p ws).2 = 0) : chk (mdf p ws).1 = 0 := by
  unfold mdf at h ⊢
  split at h
  · rename_i hc
    exact absurd h hc
  · rename_i hc
    rw [if_neg hc]
    cases hw : wdsM p ws ws.length with
    | none => rw [hw] at h; simp at h
    | some x =>
      obtain ⟨q, k⟩ := x
      rw [hw] at h
      simp only at h ⊢
      by_cases hq : chk q = 0
      · rw [if_neg (by simpa using hq)]
        exact hq
      · rw [if_pos hq] at h
        exact absurd h hq
set_option maxHeartbeats 8000000 in
theorem once_walk {ea : Int → Addr} (v wv : Value) (p : Pt) (ws : List ByteArray) (W : World) (hE : Errs ea W) (hR : RdP W v p) (hw : RdS W wv ws) (hwz : ∀ x ∈ ws, x.size ≤ 140737488355328) (hcap : ∀ a n c, wv = .slice a n c → n ≤ c) :
    Calls Tryz.prog 4 #[v, wv] W fun e w' => e = .returned (.bool true) ∧ Below W.heap.size W w' := by
  obtain ⟨a0, p0, a1, p1, al, cv, rfl⟩ := rdp_sl hR
  obtain ⟨aw, cw, rfl, -⟩ := id hw
  have hst := bx_new W hR
  have hal : Below W.heap.size W (W.alloc (.cells #[.string p.nm, .slice a0 p.b0.length p0, .slice a1 p.b1.length p1, .slice al p.ln.length cv] 26)) := (Below.refl _ _).alloc (Nat.le_refl _) _
  obtain ⟨q, hq⟩ : ∃ q, W.heap.size = q := ⟨_, rfl⟩
  obtain ⟨n0, hn0⟩ : ∃ n0, p.b0.length = n0 := ⟨_, rfl⟩
  obtain ⟨n1, hn1⟩ : ∃ n1, p.b1.length = n1 := ⟨_, rfl⟩
  obtain ⟨nl, hnl⟩ : ∃ nl, p.ln.length = nl := ⟨_, rfl⟩
  obtain ⟨n, hn⟩ : ∃ n, ws.length = n := ⟨_, rfl⟩
  simp only [hn0, hn1, hnl, hn] at hst hal hw hcap ⊢
  obtain ⟨W1, hW1⟩ : ∃ W1, W.alloc (.cells #[.string p.nm, .slice a0 n0 p0, .slice a1 n1 p1, .slice al nl cv] 26) = W1 := ⟨_, rfl⟩
  simp only [hq, hW1] at hst hal ⊢
  have HE : Hid (∀ y, Below q W y → Errs ea y ∧ q ≤ y.heap.size) := fun y hy => ⟨hE.below (by rw [hq]; exact hy), by have := hy.size; omega⟩
  have HWR : Hid (∀ y, Below q W y → RdS y (.slice aw n cw) ws) := fun y hy => hw.below (by rw [hq]; exact hy)
  have HWZ : Hid (∀ x ∈ ws, x.size ≤ 140737488355328) := hwz
  have HCP : Hid (∀ a m c, Value.slice aw n cw = .slice a m c → m ≤ c) := hcap
  have HNL : Hid (p.ln.length = nl ∧ ws.length = n) := ⟨hnl, hn⟩
  have H1 : Hid (OW q W (.slice a0 n0 p0) (.slice a1 n1 p1) (.slice al nl cv) p W1) := ⟨hal, hst⟩
  have CM := much_any _ p W1 hst.rd
  have d0 := hst.c0
  have d1 := hst.c1
  have d2 := hst.c2
  have d3 := hst.c3
  clear hst hal hE hR hw hwz hcap hn0 hn1 hnl hn
  by_cases hlt : 200 < n
  · have b1 : (n : Int) > 200 := by omega
    have b2 : (200 : Int) < (n : Int) := by omega
    go_enter Tryz.func4, Tryz.ntmps4
    go_upto_if 15 with (go_at_call 7; refine CM.mono ?_; rintro e w2 ⟨b, rfl, hs, hb⟩; have H2 : Hid (OW q W (.slice a0 n0 p0) (.slice a1 n1 p1) (.slice al nl cv) p w2) := H1.out.on hb; clear hs hb CM d0 d1 d2 d3; rcases b with _ | _)
    all_goals
      have CK := known_any (ea := ea) w2 (HE.out _ H2.out.1).1
      go_wp2_with (go_at_call 8; refine CK.mono ?_; rintro e w3 ⟨rfl, hb⟩; have H3 : Hid (Below q W w3) := sub_le H2.out.1 hb (HE.out _ H2.out.1).2; clear hb CK)
      go_ret
      exact ⟨rfl, H3.out⟩
  have b1 : ¬ (n : Int) > 200 := by omega
  have b2 : ¬ (200 : Int) < (n : Int) := by omega
  have HN2 : Hid (n ≤ 200) := by show n ≤ 200; omega
  clear hlt
  go_enter Tryz.func4, Tryz.ntmps4
  go_upto_if 15 with (go_at_call 7; refine CM.mono ?_; rintro e w2 ⟨b, rfl, hs, hb⟩; have HS : Hid (b = false → Sml p) := hs; have H2 : Hid (OW q W (.slice a0 n0 p0) (.slice a1 n1 p1) (.slice al nl cv) p w2) := H1.out.on hb; clear hs hb CM d0 d1 d2 d3; rcases b with _ | _)
  rotate_left
  · have CK := known_any (ea := ea) w2 (HE.out _ H2.out.1).1
    go_wp2_with (go_at_call 8; refine CK.mono ?_; rintro e w3 ⟨rfl, hb⟩; have H3 : Hid (Below q W w3) := sub_le H2.out.1 hb (HE.out _ H2.out.1).2; clear hb CK)
    go_ret
    exact ⟨rfl, H3.out⟩
  have hs := HS.out trivial
  have HNM : Hid (p.nm.size ≤ 100000) := Nat.le_trans hs.2.2.2.1 (by decide)
  have d0 := H2.out.2.c0
  have d1 := H2.out.2.c1
  have d2 := H2.out.2.c2
  have d3 := H2.out.2.c3
  have CC := pcheck_any (ea := ea) _ p w2 (HE.out _ H2.out.1).1 H2.out.2.rd
  clear hs HS
  by_cases hc : chk p = 0
  case neg =>
    rw [EV_ne hc] at CC
    have HMB : Hid (mdf p ws = (zPt, chk p)) := mdf_bad ws hc
    obtain ⟨c, hcc⟩ : ∃ c, chk p = c := ⟨_, rfl⟩
    rw [hcc] at CC HMB hc
    have HC : Hid (c ≠ 0) := hc
    clear hc hcc
    go_upto_region 4 with (go_at_call 12; refine CC.mono ?_; rintro e w3 ⟨rfl, hb⟩; have H3 : Hid (OW q W (.slice a0 n0 p0) (.slice a1 n1 p1) (.slice al nl cv) p w3) := H2.out.on hb; clear hb CC d0 d1 d2 d3)
    have d0 := H3.out.2.c0
    have d1 := H3.out.2.c1
    have d2 := H3.out.2.c2
    have d3 := H3.out.2.c3
    have CM := modify_any' (ea := ea) _ (.slice aw n cw) p ws w3 (HE.out _ H3.out.1).1 H3.out.2.rd (HWR.out _ H3.out.1) HNM.out (by rw [HNL.out.2]; exact HN2.out) HWZ.out HCP.out
    unfold MoP at CM
    rw [HMB.out, EV_ne HC.out] at CM
    go_wp2_with (first
      | (go_at_call 13; refine CM.mono ?_; rintro e w4 ⟨hb, v0, v1, vl, rfl, hf⟩; obtain ⟨c0, l0, c1, l1, cl, ll, rfl, rfl, rfl⟩ := ft_sl hf; have H4 : Hid (Below q W (w4.alloc (.cells #[.string zPt.nm, .slice c0 zPt.b0.length l0, .slice c1 zPt.b1.length l1, .slice cl zPt.ln.length ll] 26))) := (H3.out.on hb).1.alloc (HE.out _ (H3.out.on hb).1).2 _; have CK := known_any (ea := ea) _ (HE.out _ H4.out).1; clear hb hf CM)
      | (go_at_call 8; refine CK.mono ?_; rintro e w5 ⟨rfl, hb⟩; have H5 : Hid (Below q W w5) := sub_le H4.out hb (HE.out _ H4.out).2; clear hb CK))
    go_ret
    exact ⟨rfl, H5.out⟩
  rw [hc, EV_0] at CC
  have HO : Hid (OnP p) := on_chk hc
  have hnz : ¬ nl = 0 := by have := (shaped_all HO.out.sh).2.2.1; have := HNL.out; omega
  have b3 : ¬ (nl : Int) = 0 := by omega
  have b4 : ((nl : Int) == 0) = false := by simpa using b3
  clear hc
  go_upto_region 8 with (first
    | (go_at_call 12; refine CC.mono ?_; rintro e w3 ⟨rfl, hb⟩; have H3 : Hid (OW q W (.slice a0 n0 p0) (.slice a1 n1 p1) (.slice al nl cv) p w3) := H2.out.on hb; clear hb CC d0 d1 d2 d3; have d0 := H3.out.2.c0; have d1 := H3.out.2.c1; have d2 := H3.out.2.c2; have d3 := H3.out.2.c3; have CO := once_true _ p w3 H3.out.2.rd HO.out)
    | (go_at_call 14; refine CO.mono ?_; rintro e w4 ⟨rfl, hb⟩; have H4 : Hid (OW q W (.slice a0 n0 p0) (.slice a1 n1 p1) (.slice al nl cv) p w4) := H3.out.on hb; clear hb CO d0 d1 d2 d3))
  clear b3 b4 hnz
  have d0 := H4.out.2.c0
  have d1 := H4.out.2.c1
  have d2 := H4.out.2.c2
  have d3 := H4.out.2.c3
  have CM := modify_any' (ea := ea) _ (.slice aw n cw) p ws w4 (HE.out _ H4.out.1).1 H4.out.2.rd (HWR.out _ H4.out.1) HNM.out (by rw [HNL.out.2]; exact HN2.out) HWZ.out HCP.out
  unfold MoP at CM
  have hmo := mdf_ok (p := p) (ws := ws)
  obtain ⟨x, hx⟩ : ∃ x, mdf p ws = x := ⟨_, rfl⟩
  obtain ⟨P, d⟩ := x
  rw [hx] at CM hmo
  simp only at CM hmo
  clear hx
  by_cases hd : d = 0
  case neg =>
    rw [EV_ne hd] at CM
    have HD : Hid (d ≠ 0) := hd
    clear hd hmo
    go_wp2_with (first
      | (go_at_call 13; refine CM.mono ?_; rintro e w5 ⟨hb, v0, v1, vl, rfl, hf⟩; obtain ⟨c0, l0, c1, l1, cl, ll, rfl, rfl, rfl⟩ := ft_sl hf; have H5 : Hid (Below q W (w5.alloc (.cells #[.string P.nm, .slice c0 P.b0.length l0, .slice c1 P.b1.length l1, .slice cl P.ln.length ll] 26))) := (H4.out.on hb).1.alloc (HE.out _ (H4.out.on hb).1).2 _; have CK := known_any (ea := ea) _ (HE.out _ H5.out).1; clear hb hf CM)
      | (go_at_call 8; refine CK.mono ?_; rintro e w6 ⟨rfl, hb⟩; have H6 : Hid (Below q W w6) := sub_le H5.out hb (HE.out _ H5.out).2; clear hb CK))
    go_ret
    exact ⟨rfl, H6.out⟩
  subst hd
  have hP := hmo rfl
  have HOP : Hid (OnP P ∧ chk P = 0) := ⟨on_chk hP, hP⟩
  simp only [EV_0] at CM
  clear hmo hP
  go_upto_region 11 with (go_at_call 13; refine CM.mono ?_; rintro e w5 ⟨hb, v0, v1, vl, rfl, hf⟩; obtain ⟨c0, l0, c1, l1, cl, ll, rfl, rfl, rfl⟩ := ft_sl hf; have H5 : Hid (Below q W w5 ∧ RdP w5 (.agg #[.string P.nm, .slice c0 P.b0.length l0, .slice c1 P.b1.length l1, .slice cl P.ln.length ll]) P) := ⟨(H4.out.on hb).1, hf.rd⟩; clear hb hf CM)
  clear d0 d1 d2 d3
  have hbx := bx_new w5 H5.out.2
  have ha := H5.out.1.alloc (HE.out _ H5.out.1).2 (.cells #[.string P.nm, .slice c0 P.b0.length l0, .slice c1 P.b1.length l1, .slice cl P.ln.length ll] 26)
  obtain ⟨g5, hg5⟩ : ∃ g5, w5.heap.size = g5 := ⟨_, rfl⟩
  obtain ⟨L, hL⟩ : ∃ L, P.ln.length = L := ⟨_, rfl⟩
  simp only [hL] at hbx ha ⊢
  obtain ⟨W6, hW6⟩ : ∃ W6, w5.alloc (.cells #[.string P.nm, .slice c0 P.b0.length l0, .slice c1 P.b1.length l1, .slice cl L ll] 26) = W6 := ⟨_, rfl⟩
  simp only [hg5, hW6] at hbx ha ⊢
  have H6 : Hid (Below q W W6 ∧ BX g5 (.slice c0 P.b0.length l0) (.slice c1 P.b1.length l1) (.slice cl L ll) P W6) := ⟨ha, hbx⟩
  have hL0 : 0 < L := by have := (shaped_all HOP.out.1.sh).2.2.1; omega
  have b3 : (L : Int) > 0 := by omega
  have b4 : (0 : Int) < (L : Int) := by omega
  have y0 := hbx.c0
  have y1 := hbx.c1
  have y2 := hbx.c2
  have y3 := hbx.c3
  have CO := once_true _ P W6 hbx.rd HOP.out.1
  clear hbx ha hg5 hW6 hL hL0 H5
  go_wp2_with (first
    | (go_at_call 14; refine CO.mono ?_; rintro e w7 ⟨rfl, hb⟩; have H7 : Hid (Below q W w7 ∧ BX g5 (.slice c0 P.b0.length l0) (.slice c1 P.b1.length l1) (.slice cl L ll) P w7) := ⟨sub_le H6.out.1 hb (HE.out _ H6.out.1).2, H6.out.2.below hb⟩; clear hb CO y0 y1 y2 y3; have y0 := H7.out.2.c0; have y1 := H7.out.2.c1; have y2 := H7.out.2.c2; have y3 := H7.out.2.c3; have CC := pcheck_any (ea := ea) _ P w7 (HE.out _ H7.out.1).1 H7.out.2.rd; rw [HOP.out.2, EV_0] at CC)
    | (go_at_call 12; refine CC.mono ?_; rintro e w8 ⟨rfl, hb⟩; have H8 : Hid (Below q W w8) := sub_le H7.out.1 hb (HE.out _ H7.out.1).2; clear hb CC y0 y1 y2 y3; have CK := known_any (ea := ea) w8 (HE.out _ H8.out).1)
    | (go_at_call 8; refine CK.mono ?_; rintro e w9 ⟨rfl, hb⟩; have H9 : Hid (Below q W w9) := sub_le H8.out hb (HE.out _ H8.out).2; clear hb CK))
  go_ret
  exact ⟨rfl, H9.out⟩
end Go.Proofs.YtmlcgcmoioekpabGreatDoor
