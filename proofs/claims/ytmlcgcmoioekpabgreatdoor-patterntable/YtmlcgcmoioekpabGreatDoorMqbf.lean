import Derived.Deep.DeepCutAuto
import Derived.Test.YtmlcgcmoioekpabGreatDoorMqbe
import Derived.Test.YtmlcgcmoioekpabGreatDoorMqbd
import Derived.Test.YtmlcgcmoioekpabGreatDoorMqay
import Derived.Test.YtmlcgcmoioekpabGreatDoorMqba
namespace Go.Proofs.YtmlcgcmoioekpabGreatDoor
set_option linter.unusedSimpArgs false
set_option linter.unusedVariables false
set_option maxRecDepth 100000
open Go.ChangeShapes Go.WideShapes Go.ChangeAt Go.RowKit Go.Pin Go.Pat Go.Deep
theorem shp_alt : ∀ (L : List Ln) (q : Option Int) (n : Nat), shp q n L = true → (∀ f, q = some f → L ≠ [] → (L.getD 0 (0, [])).1 ≠ f) ∧ ∀ i, 0 < i → i < L.length → (L.getD i (0, [])).1 ≠ (L.getD (i - 1) (0, [])).1
  | [], _, _, _ => ⟨fun _ _ h => absurd rfl h, fun i _ h => nomatch h⟩
  | (f, ts) :: r, q, n, h => by
    rw [shp_split] at h
    simp only [Bool.and_eq_true, decide_eq_true_eq] at h
    obtain ⟨h1, h2⟩ := shp_alt r _ _ h.2
    refine ⟨fun g hg _ e => h.1.1.1.1.2 ?_, fun i hi hl => ?_⟩
    · rw [hg, ← e]; rfl
    · match i, hi with
      | 1, _ => exact h1 f rfl (by intro e; rw [e] at hl; simp at hl)
      | i + 2, _ =>
        have := h2 (i + 1) (by omega) (by simp at hl; omega)
        exact this
def OW (q : Nat) (W : World) (v0 v1 vl : Value) (p : Pt) (y : World) : Prop := Below q W y ∧ BX q v0 v1 vl p y
theorem OW.on {q : Nat} {W y y' : World} {v0 v1 vl : Value} {p : Pt} (h : OW q W v0 v1 vl p y) (hb : Below y.heap.size y y') : OW q W v0 v1 vl p y' := ⟨h.1.trans (hb.mono (Nat.le_of_lt h.2.lt)), h.2.below hb⟩
set_option maxHeartbeats 8000000 in
theorem once_true (v : Value) (p : Pt) (W : World) (hR : RdP W v p) (h : OnP p) :
    Calls Tryz.prog 14 #[v] W fun e w' => e = .returned (.bool true) ∧ Below W.heap.size W w' := by
  obtain ⟨a0, p0, a1, p1, al, cv, rfl⟩ := rdp_sl hR
  have hst := bx_new W hR
  have hal : Below W.heap.size W (W.alloc (.cells #[.string p.nm, .slice a0 p.b0.length p0, .slice a1 p.b1.length p1, .slice al p.ln.length cv] 26)) := (Below.refl _ _).alloc (Nat.le_refl _) _
  obtain ⟨q, hq⟩ : ∃ q, W.heap.size = q := ⟨_, rfl⟩
  obtain ⟨n0, hn0⟩ : ∃ n0, p.b0.length = n0 := ⟨_, rfl⟩
  obtain ⟨n1, hn1⟩ : ∃ n1, p.b1.length = n1 := ⟨_, rfl⟩
  obtain ⟨nl, hnl⟩ : ∃ nl, p.ln.length = nl := ⟨_, rfl⟩
  obtain ⟨m0, m1, m2, m3, m4⟩ := shaped_all h.sh
  rw [hnl] at m2 m3
  simp only [hn0, hn1, hnl] at hst hal ⊢
  obtain ⟨W1, hW1⟩ : ∃ W1, W.alloc (.cells #[.string p.nm, .slice a0 n0 p0, .slice a1 n1 p1, .slice al nl cv] 26) = W1 := ⟨_, rfl⟩
  simp only [hq, hW1] at hst hal ⊢
  obtain ⟨v0, hv0⟩ : ∃ v, Value.slice a0 n0 p0 = v := ⟨_, rfl⟩
  obtain ⟨v1, hv1⟩ : ∃ v, Value.slice a1 n1 p1 = v := ⟨_, rfl⟩
  have HB : Hid (OW q W (.slice a0 n0 p0) (.slice a1 n1 p1) (.slice al nl cv) p W1) := ⟨hal, hst⟩
  have HCN : Hid (∀ (side t : Int) (y : World), OW q W (.slice a0 n0 p0) (.slice a1 n1 p1) (.slice al nl cv) p y → Calls Tryz.prog 40 #[.agg #[.string p.nm, .slice a0 n0 p0, .slice a1 n1 p1, .slice al nl cv], .int .i64 side, .int .i64 t] y fun e w' => e = .returned (.int .i64 (cntP p side t)) ∧ Below y.heap.size y w') := fun side t y hy => count_any _ p side t y hy.2.rd h.sh
  have HAT : Hid (∀ y, OW q W (.slice a0 n0 p0) (.slice a1 n1 p1) (.slice al nl cv) p y → ∀ j, j < nl → ∃ b o, al = some ⟨b, o, none⟩ ∧ y.cell? ⟨b, o + j * 2, none⟩ = some (.int .i64 (p.ln.getD j (0, [])).1)) := fun y hy j hj => by
    obtain ⟨u0, u1, ul, e, r0, r1, rl⟩ := hy.2.rd
    injection e with e
    simp only [Array.mk.injEq, List.cons.injEq, and_true] at e
    obtain ⟨_, e0, e1, el⟩ := e
    subst e0 e1 el
    obtain ⟨b, o, a2, n2, c2, h1, h2, _, _⟩ := rl.at (j := j) hj
    exact ⟨b, o, h1, (h2 y (Below.refl _ _)).1⟩
  have HO : Hid (OnP p) := h
  have HNL : Hid (p.ln.length = nl ∧ 0 < nl ∧ nl ≤ 24 ∧ W.heap.size = q) := ⟨hnl, m2, m3, hq⟩
  have d0 := hst.c0
  have d1 := hst.c1
  have d2 := hst.c2
  have d3 := hst.c3
  have x1 : ¬ ((cntP p 0 1 : Nat) : Int) > 1 := by have := h.e0.1; omega
  have x2 : ¬ ((cntP p 0 2 : Nat) : Int) > 1 := by have := h.e0.2; omega
  have x3 : ¬ ((cntP p 1 1 : Nat) : Int) > 1 := by have := h.e1.1; omega
  have x4 : ¬ ((cntP p 1 2 : Nat) : Int) > 1 := by have := h.e1.2; omega
  clear hst hal hR h hn0 hn1 hnl hv0 hv1 m0 m1 m2 m3 m4
  go_enter Tryz.func14, Tryz.ntmps14
  go_wp2
  clear hW1
  go_loopw [3] (fun v3 y => (v3 = .int .i64 0 ∨ v3 = .int .i64 1 ∨ v3 = .int .i64 2) ∧ OW q W (.slice a0 n0 p0) (.slice a1 n1 p1) (.slice al nl cv) p y) (fun v _ => 2 - (intOf v).toNat)
  case atStart => exact ⟨.inl rfl, HB.out⟩
  case round =>
    obtain ⟨hv, hw⟩ := hrel
    clear HB d0 d1 d2 d3
    have HB : Hid (OW q W (.slice a0 n0 p0) (.slice a1 n1 p1) (.slice al nl cv) p wr) := hw
    have d0 := hw.2.c0
    have d1 := hw.2.c1
    have d2 := hw.2.c2
    have d3 := hw.2.c3
    clear hw
    rcases hv with rfl | rfl | rfl
    · go_wp2_with (go_at_call 40; refine Calls.mono (HCN.out _ _ _ HB.out) ?_; rintro e y ⟨rfl, hb⟩; have hn := HB.out.on hb; clear HB hb d0 d1 d2 d3; have HB : Hid (OW q W (.slice a0 n0 p0) (.slice a1 n1 p1) (.slice al nl cv) p y) := hn; clear hn; have d0 := HB.out.2.c0; have d1 := HB.out.2.c1; have d2 := HB.out.2.c2; have d3 := HB.out.2.c3)
      exact ⟨⟨.inr (.inl rfl), HB.out⟩, by decide⟩
    · go_wp2_with (go_at_call 40; refine Calls.mono (HCN.out _ _ _ HB.out) ?_; rintro e y ⟨rfl, hb⟩; have hn := HB.out.on hb; clear HB hb d0 d1 d2 d3; have HB : Hid (OW q W (.slice a0 n0 p0) (.slice a1 n1 p1) (.slice al nl cv) p y) := hn; clear hn; have d0 := HB.out.2.c0; have d1 := HB.out.2.c1; have d2 := HB.out.2.c2; have d3 := HB.out.2.c3)
      exact ⟨⟨.inr (.inr rfl), HB.out⟩, by decide⟩
    · clear x1 x2 x3 x4
      have x3 : ¬ ((cntP p (-1) 3 : Nat) : Int) > 1 := by have := HO.out.k; omega
      have x4 : ¬ ((cntP p (-1) 4 : Nat) : Int) > 1 := by have := HO.out.k; omega
      have x5 : ¬ ((cntP p (-1) 5 : Nat) : Int) > 1 := by have := HO.out.k; omega
      have x6 : ¬ ((cntP p (-1) 6 : Nat) : Int) > 1 := by have := HO.out.k; omega
      go_upto_region 8 with (go_at_call 40; refine Calls.mono (HCN.out _ _ _ HB.out) ?_; rintro e y ⟨rfl, hb⟩; have hn := HB.out.on hb; clear HB hb d0 d1 d2 d3; have HB : Hid (OW q W (.slice a0 n0 p0) (.slice a1 n1 p1) (.slice al nl cv) p y) := hn; clear hn; have d0 := HB.out.2.c0; have d1 := HB.out.2.c1; have d2 := HB.out.2.c2; have d3 := HB.out.2.c3)
      clear x3 x4 x5 x6
      go_cut [65] (fun v y => v = .bool false ∧ OW q W (.slice a0 n0 p0) (.slice a1 n1 p1) (.slice al nl cv) p y)
      case first =>
        by_cases h3 : cntP p (-1) 3 = 1
        · have g3 := HO.out.ee h3
          have y301 : cntP p 0 1 = 1 := by have := HO.out.e0; omega
          have y311 : cntP p 1 1 = 1 := by have := HO.out.e1; omega
          clear g3
          by_cases h6 : cntP p (-1) 6 = 1
          · have g6 := HO.out.ss h6
            have y602 : cntP p 0 2 = 1 := by have := HO.out.e0; omega
            have y612 : cntP p 1 2 = 1 := by have := HO.out.e1; omega
            clear g6
            go_wp2_with (go_at_call 40; refine Calls.mono (HCN.out _ _ _ HB.out) ?_; rintro e y ⟨rfl, hb⟩; have hn := HB.out.on hb; clear HB hb d0 d1 d2 d3; have HB : Hid (OW q W (.slice a0 n0 p0) (.slice a1 n1 p1) (.slice al nl cv) p y) := hn; clear hn; have d0 := HB.out.2.c0; have d1 := HB.out.2.c1; have d2 := HB.out.2.c2; have d3 := HB.out.2.c3)
            go_meet
            exact ⟨rfl, HB.out⟩
          · have z6 : cntP p (-1) 6 = 0 := by have := HO.out.k; omega
            clear h6
            go_wp2_with (go_at_call 40; refine Calls.mono (HCN.out _ _ _ HB.out) ?_; rintro e y ⟨rfl, hb⟩; have hn := HB.out.on hb; clear HB hb d0 d1 d2 d3; have HB : Hid (OW q W (.slice a0 n0 p0) (.slice a1 n1 p1) (.slice al nl cv) p y) := hn; clear hn; have d0 := HB.out.2.c0; have d1 := HB.out.2.c1; have d2 := HB.out.2.c2; have d3 := HB.out.2.c3)
            go_meet
            exact ⟨rfl, HB.out⟩
        · have z3 : cntP p (-1) 3 = 0 := by have := HO.out.k; omega
          clear h3
          by_cases h6 : cntP p (-1) 6 = 1
          · have g6 := HO.out.ss h6
            have y602 : cntP p 0 2 = 1 := by have := HO.out.e0; omega
            have y612 : cntP p 1 2 = 1 := by have := HO.out.e1; omega
            clear g6
            go_wp2_with (go_at_call 40; refine Calls.mono (HCN.out _ _ _ HB.out) ?_; rintro e y ⟨rfl, hb⟩; have hn := HB.out.on hb; clear HB hb d0 d1 d2 d3; have HB : Hid (OW q W (.slice a0 n0 p0) (.slice a1 n1 p1) (.slice al nl cv) p y) := hn; clear hn; have d0 := HB.out.2.c0; have d1 := HB.out.2.c1; have d2 := HB.out.2.c2; have d3 := HB.out.2.c3)
            go_meet
            exact ⟨rfl, HB.out⟩
          · have z6 : cntP p (-1) 6 = 0 := by have := HO.out.k; omega
            clear h6
            go_wp2_with (go_at_call 40; refine Calls.mono (HCN.out _ _ _ HB.out) ?_; rintro e y ⟨rfl, hb⟩; have hn := HB.out.on hb; clear HB hb d0 d1 d2 d3; have HB : Hid (OW q W (.slice a0 n0 p0) (.slice a1 n1 p1) (.slice al nl cv) p y) := hn; clear hn; have d0 := HB.out.2.c0; have d1 := HB.out.2.c1; have d2 := HB.out.2.c2; have d3 := HB.out.2.c3)
            go_meet
            exact ⟨rfl, HB.out⟩
      obtain ⟨rfl, hw⟩ := hcut
      clear HB d0 d1 d2 d3
      have HB : Hid (OW q W (.slice a0 n0 p0) (.slice a1 n1 p1) (.slice al nl cv) p wc) := hw
      have d0 := hw.2.c0
      have d1 := hw.2.c1
      have d2 := hw.2.c2
      have d3 := hw.2.c3
      clear hw
      go_upto_region 10 with (fail)
      go_cut [93] (fun v y => v = .bool false ∧ OW q W (.slice a0 n0 p0) (.slice a1 n1 p1) (.slice al nl cv) p y)
      case first =>
        by_cases h4 : cntP p (-1) 4 = 1
        · have g4 := HO.out.es h4
          have y401 : cntP p 0 1 = 1 := by have := HO.out.e0; omega
          have y412 : cntP p 1 2 = 1 := by have := HO.out.e1; omega
          clear g4
          by_cases h5 : cntP p (-1) 5 = 1
          · have g5 := HO.out.se h5
            have y502 : cntP p 0 2 = 1 := by have := HO.out.e0; omega
            have y511 : cntP p 1 1 = 1 := by have := HO.out.e1; omega
            clear g5
            go_wp2_with (go_at_call 40; refine Calls.mono (HCN.out _ _ _ HB.out) ?_; rintro e y ⟨rfl, hb⟩; have hn := HB.out.on hb; clear HB hb d0 d1 d2 d3; have HB : Hid (OW q W (.slice a0 n0 p0) (.slice a1 n1 p1) (.slice al nl cv) p y) := hn; clear hn; have d0 := HB.out.2.c0; have d1 := HB.out.2.c1; have d2 := HB.out.2.c2; have d3 := HB.out.2.c3)
            go_meet
            exact ⟨rfl, HB.out⟩
          · have z5 : cntP p (-1) 5 = 0 := by have := HO.out.k; omega
            clear h5
            go_wp2_with (go_at_call 40; refine Calls.mono (HCN.out _ _ _ HB.out) ?_; rintro e y ⟨rfl, hb⟩; have hn := HB.out.on hb; clear HB hb d0 d1 d2 d3; have HB : Hid (OW q W (.slice a0 n0 p0) (.slice a1 n1 p1) (.slice al nl cv) p y) := hn; clear hn; have d0 := HB.out.2.c0; have d1 := HB.out.2.c1; have d2 := HB.out.2.c2; have d3 := HB.out.2.c3)
            go_meet
            exact ⟨rfl, HB.out⟩
        · have z4 : cntP p (-1) 4 = 0 := by have := HO.out.k; omega
          clear h4
          by_cases h5 : cntP p (-1) 5 = 1
          · have g5 := HO.out.se h5
            have y502 : cntP p 0 2 = 1 := by have := HO.out.e0; omega
            have y511 : cntP p 1 1 = 1 := by have := HO.out.e1; omega
            clear g5
            go_wp2_with (go_at_call 40; refine Calls.mono (HCN.out _ _ _ HB.out) ?_; rintro e y ⟨rfl, hb⟩; have hn := HB.out.on hb; clear HB hb d0 d1 d2 d3; have HB : Hid (OW q W (.slice a0 n0 p0) (.slice a1 n1 p1) (.slice al nl cv) p y) := hn; clear hn; have d0 := HB.out.2.c0; have d1 := HB.out.2.c1; have d2 := HB.out.2.c2; have d3 := HB.out.2.c3)
            go_meet
            exact ⟨rfl, HB.out⟩
          · have z5 : cntP p (-1) 5 = 0 := by have := HO.out.k; omega
            clear h5
            go_wp2_with (go_at_call 40; refine Calls.mono (HCN.out _ _ _ HB.out) ?_; rintro e y ⟨rfl, hb⟩; have hn := HB.out.on hb; clear HB hb d0 d1 d2 d3; have HB : Hid (OW q W (.slice a0 n0 p0) (.slice a1 n1 p1) (.slice al nl cv) p y) := hn; clear hn; have d0 := HB.out.2.c0; have d1 := HB.out.2.c1; have d2 := HB.out.2.c2; have d3 := HB.out.2.c3)
            go_meet
            exact ⟨rfl, HB.out⟩
      obtain ⟨rfl, hw⟩ := hcut
      clear HB d0 d1 d2 d3
      have HB : Hid (OW q W (.slice a0 n0 p0) (.slice a1 n1 p1) (.slice al nl cv) p wc) := hw
      have d0 := hw.2.c0
      have d1 := hw.2.c1
      have d2 := hw.2.c2
      have d3 := hw.2.c3
      clear hw
      go_wp2
      go_loopw [4] (fun v4 y => (∃ i : Nat, 1 ≤ i ∧ i ≤ nl ∧ v4 = .int .i64 i) ∧ OW q W (.slice a0 n0 p0) (.slice a1 n1 p1) (.slice al nl cv) p y) (fun v _ => nl - (intOf v).toNat)
      case atStart => exact ⟨⟨1, Nat.le_refl _, HNL.out.2.1, rfl⟩, HB.out⟩
      case round =>
        obtain ⟨⟨i, h1, hi, rfl⟩, hw⟩ := hrel
        clear HB d0 d1 d2 d3
        have HB : Hid (OW q W (.slice a0 n0 p0) (.slice a1 n1 p1) (.slice al nl cv) p wr) := hw
        have d0 := hw.2.c0
        have d1 := hw.2.c1
        have d2 := hw.2.c2
        have d3 := hw.2.c3
        clear hw
        by_cases hlt : i < nl
        · obtain ⟨b, o, rfl, hc1⟩ := HAT.out _ HB.out i hlt
          obtain ⟨b', o', e, hc2⟩ := HAT.out _ HB.out (i - 1) (by omega)
          injection e with e
          injection e with e1 e2
          subst e1 e2
          have hal := (shp_alt p.ln none 0 (shaped_lines HO.out.sh).2.2.2).2 i (by omega) (by have := HNL.out; omega)
          obtain ⟨j, rfl⟩ : ∃ j, i = j + 1 := ⟨i - 1, by omega⟩
          simp only [Nat.add_sub_cancel] at hc2 hal
          obtain ⟨f, hf⟩ : ∃ f, (p.ln.getD (j + 1) (0, [])).1 = f := ⟨_, rfl⟩
          obtain ⟨g, hg⟩ : ∃ g, (p.ln.getD j (0, [])).1 = g := ⟨_, rfl⟩
          rw [hf] at hc1 hal
          rw [hg] at hc2 hal
          have HLT : Hid (j + 1 < nl ∧ f ≠ g) := ⟨hlt, hal⟩
          have f1 : (f == g) = false := by simpa using hal
          have f2 : decide (f = g) = false := by simpa using hal
          have b1 : (j : Int) + 1 < nl := by omega
          have b2 : (0 : Int) ≤ (j : Int) := by omega
          have b3 : (nl : Int) ≤ 24 := by have := HNL.out; omega
          have b4 : (j : Int) < nl := by omega
          clear hf hg hal hlt hi h1
          go_wp2
          go_region
          go_wp2
          exact ⟨⟨⟨j + 2, by omega, HLT.out.1, congrArg (Value.int .i64) (by omega)⟩, HB.out.on ((Below.refl _ _).drew)⟩, by have := HLT.out.1; show nl - ((j : Int) + 1 + 1).toNat < nl - (((j + 1 : Nat) : Int)).toNat; omega⟩
        · obtain rfl : nl = i := by omega
          have b1 : ¬ (nl : Int) < nl := by omega
          clear h1 hi hlt
          go_upto_region 17 with (fail)
          clear b1
          go_cut [5] (fun v y => v = .bool (both p) ∧ OW q W (.slice a0 n0 p0) (.slice a1 n1 p1) (.slice al nl cv) p y)
          case first =>
            by_cases hn : 1 < nl
            · have b2 : (nl : Int) > 1 := by omega
              have b3 : (1 : Int) < nl := by omega
              have HBT : Hid (both p = true) := by
                show both p = true
                unfold both
                rw [HNL.out.1]
                simp [hn]
              clear hn
              go_wp2
              go_meet
              exact ⟨congrArg Value.bool HBT.out.symm, HB.out⟩
            · have b2 : ¬ (nl : Int) > 1 := by omega
              have b3 : ¬ (1 : Int) < nl := by omega
              have hn1 : nl = 1 := by have := HNL.out; omega
              have b4 : (0 : Int) < nl := by omega
              obtain ⟨b, o, rfl, hc1⟩ := HAT.out _ HB.out 0 (by omega)
              simp only [Nat.zero_mul, Nat.add_zero] at hc1
              obtain ⟨f, hf⟩ : ∃ f, (p.ln.getD 0 (0, [])).1 = f := ⟨_, rfl⟩
              rw [hf] at hc1
              have HBT : Hid (both p = decide (f = 1)) := by
                show both p = decide (f = 1)
                unfold both
                rw [HNL.out.1, hf]
                simp [hn]
              have HN1 : Hid (nl = 1) := hn1
              clear hn hf hn1
              by_cases h1 : f = 1
              · have HBU : Hid (both p = true) := by show both p = true; rw [HBT.out]; simpa using h1
                clear HBT
                go_wp2
                go_meet
                exact ⟨congrArg Value.bool HBU.out.symm, HB.out⟩
              · have HBU : Hid (both p = false) := by show both p = false; rw [HBT.out]; simpa using h1
                have f1 : (f == 1) = false := by simpa using h1
                have f2 : decide (f = 1) = false := by simpa using h1
                clear HBT
                go_wp2
                go_meet
                exact ⟨congrArg Value.bool HBU.out.symm, HB.out⟩
          obtain ⟨rfl, hw⟩ := hcut
          clear HB d0 d1 d2 d3
          have HB : Hid (OW q W (.slice a0 n0 p0) (.slice a1 n1 p1) (.slice al nl cv) p wc) := hw
          have d0 := hw.2.c0
          have d1 := hw.2.c1
          have d2 := hw.2.c2
          have d3 := hw.2.c3
          clear hw
          obtain ⟨bb, hbb⟩ : ∃ bb, both p = bb := ⟨_, rfl⟩
          have HBB : Hid (both p = bb) := hbb
          rw [hbb]
          clear hbb
          go_upto_region 18 with (fail)
          go_cut [150] (fun v y => v = .bool false ∧ OW q W (.slice a0 n0 p0) (.slice a1 n1 p1) (.slice al nl cv) p y)
          case first =>
            cases bb with
            | false =>
              go_wp2_with (go_at_call 40; refine Calls.mono (HCN.out _ _ _ HB.out) ?_; rintro e y ⟨rfl, hb⟩; have hn := HB.out.on hb; clear HB hb d0 d1 d2 d3; have HB : Hid (OW q W (.slice a0 n0 p0) (.slice a1 n1 p1) (.slice al nl cv) p y) := hn; clear hn; have d0 := HB.out.2.c0; have d1 := HB.out.2.c1; have d2 := HB.out.2.c2; have d3 := HB.out.2.c3)
              go_meet
              exact ⟨rfl, HB.out⟩
            | true =>
              by_cases h5 : cntP p (-1) 5 = 1
              · have h3 : cntP p (-1) 3 = 1 := by have := HO.out.s1 h5; have := HO.out.k; omega
                by_cases h4 : cntP p (-1) 4 = 1
                · go_wp2_with (go_at_call 40; refine Calls.mono (HCN.out _ _ _ HB.out) ?_; rintro e y ⟨rfl, hb⟩; have hn := HB.out.on hb; clear HB hb d0 d1 d2 d3; have HB : Hid (OW q W (.slice a0 n0 p0) (.slice a1 n1 p1) (.slice al nl cv) p y) := hn; clear hn; have d0 := HB.out.2.c0; have d1 := HB.out.2.c1; have d2 := HB.out.2.c2; have d3 := HB.out.2.c3)
                  go_meet
                  exact ⟨rfl, HB.out⟩
                · have z4 : cntP p (-1) 4 = 0 := by have := HO.out.k; omega
                  clear h4
                  go_wp2_with (go_at_call 40; refine Calls.mono (HCN.out _ _ _ HB.out) ?_; rintro e y ⟨rfl, hb⟩; have hn := HB.out.on hb; clear HB hb d0 d1 d2 d3; have HB : Hid (OW q W (.slice a0 n0 p0) (.slice a1 n1 p1) (.slice al nl cv) p y) := hn; clear hn; have d0 := HB.out.2.c0; have d1 := HB.out.2.c1; have d2 := HB.out.2.c2; have d3 := HB.out.2.c3)
                  go_meet
                  exact ⟨rfl, HB.out⟩
              · have z5 : cntP p (-1) 5 = 0 := by have := HO.out.k; omega
                clear h5
                by_cases h4 : cntP p (-1) 4 = 1
                · have h3 : cntP p (-1) 3 = 1 := by have := HO.out.s2 HBB.out h4; have := HO.out.k; omega
                  go_wp2_with (go_at_call 40; refine Calls.mono (HCN.out _ _ _ HB.out) ?_; rintro e y ⟨rfl, hb⟩; have hn := HB.out.on hb; clear HB hb d0 d1 d2 d3; have HB : Hid (OW q W (.slice a0 n0 p0) (.slice a1 n1 p1) (.slice al nl cv) p y) := hn; clear hn; have d0 := HB.out.2.c0; have d1 := HB.out.2.c1; have d2 := HB.out.2.c2; have d3 := HB.out.2.c3)
                  go_meet
                  exact ⟨rfl, HB.out⟩
                · have z4 : cntP p (-1) 4 = 0 := by have := HO.out.k; omega
                  clear h4
                  go_wp2_with (go_at_call 40; refine Calls.mono (HCN.out _ _ _ HB.out) ?_; rintro e y ⟨rfl, hb⟩; have hn := HB.out.on hb; clear HB hb d0 d1 d2 d3; have HB : Hid (OW q W (.slice a0 n0 p0) (.slice a1 n1 p1) (.slice al nl cv) p y) := hn; clear hn; have d0 := HB.out.2.c0; have d1 := HB.out.2.c1; have d2 := HB.out.2.c2; have d3 := HB.out.2.c3)
                  go_meet
                  exact ⟨rfl, HB.out⟩
          obtain ⟨rfl, hw⟩ := hcut
          clear HB d0 d1 d2 d3
          have HB : Hid (OW q W (.slice a0 n0 p0) (.slice a1 n1 p1) (.slice al nl cv) p wc) := hw
          have d0 := hw.2.c0
          have d1 := hw.2.c1
          have d2 := hw.2.c2
          have d3 := hw.2.c3
          clear hw
          by_cases h6 : cntP p (-1) 6 = 0
          · go_wp2_with (go_at_call 40; refine Calls.mono (HCN.out _ _ _ HB.out) ?_; rintro e y ⟨rfl, hb⟩; have hn := HB.out.on hb; clear HB hb d0 d1 d2 d3; have HB : Hid (OW q W (.slice a0 n0 p0) (.slice a1 n1 p1) (.slice al nl cv) p y) := hn; clear hn; have d0 := HB.out.2.c0; have d1 := HB.out.2.c1; have d2 := HB.out.2.c2; have d3 := HB.out.2.c3)
            go_ret
            exact ⟨rfl, HB.out.1⟩
          · have z6 : cntP p (-1) 6 = 1 := by have := HO.out.k; omega
            have h4 : cntP p (-1) 4 = 1 := by
              rcases HO.out.s3 with g | g
              · exact absurd g h6
              · exact g.1
            cases bb with
            | false =>
              clear h6
              go_wp2_with (go_at_call 40; refine Calls.mono (HCN.out _ _ _ HB.out) ?_; rintro e y ⟨rfl, hb⟩; have hn := HB.out.on hb; clear HB hb d0 d1 d2 d3; have HB : Hid (OW q W (.slice a0 n0 p0) (.slice a1 n1 p1) (.slice al nl cv) p y) := hn; clear hn; have d0 := HB.out.2.c0; have d1 := HB.out.2.c1; have d2 := HB.out.2.c2; have d3 := HB.out.2.c3)
              go_ret
              exact ⟨rfl, HB.out.1⟩
            | true =>
              have h5 : cntP p (-1) 5 = 1 := by
                rcases HO.out.s3 with g | g
                · exact absurd g h6
                · rcases g.2 with g | g
                  · rw [HBB.out] at g; cases g
                  · exact g
              clear h6
              go_wp2_with (go_at_call 40; refine Calls.mono (HCN.out _ _ _ HB.out) ?_; rintro e y ⟨rfl, hb⟩; have hn := HB.out.on hb; clear HB hb d0 d1 d2 d3; have HB : Hid (OW q W (.slice a0 n0 p0) (.slice a1 n1 p1) (.slice al nl cv) p y) := hn; clear hn; have d0 := HB.out.2.c0; have d1 := HB.out.2.c1; have d2 := HB.out.2.c2; have d3 := HB.out.2.c3)
              go_ret
              exact ⟨rfl, HB.out.1⟩
end Go.Proofs.YtmlcgcmoioekpabGreatDoor
/- the table's patterns and their modifiers (P15.5, P15.7), az data -/
namespace Go.Pat
def pk (i : Nat) : ByteArray := ⟨#[112, 115, 107, UInt8.ofNat (48 + i)]⟩
def pks : List ByteArray := [pk 0, pk 1, pk 2, pk 3, pk 4, pk 5]
def lnT (p : Pt) (k : Nat) : List Int := (p.ln.getD k (0, [])).2
structure OkA (p : Pt) (i : Nat) (x : Pt × Int) : Prop where
  er : x.2 = 0
  nm : x.1.nm = p.nm ++ pk i
  ct : cntP x.1 (-1) 7 = 1
  ln : x.1.ln.length = p.ln.length
  lt : i - 1 < p.ln.length
  le : (lnT x.1 (i - 1)).length = (lnT p (i - 1)).length + 1
  hd : i = 0 → (lnT x.1 0).getD 0 0 = 7
  tl : 0 < i → (lnT x.1 (i - 1)).getD (lnT p (i - 1)).length 0 = 7
  sh : shaped x.1 = true
  sm : (lnT p (i - 1)).length ≤ 24
instance (p : Pt) (i : Nat) (x : Pt × Int) : Decidable (OkA p i x) :=
  decidable_of_iff (x.2 = 0 ∧ x.1.nm = p.nm ++ pk i ∧ cntP x.1 (-1) 7 = 1 ∧ x.1.ln.length = p.ln.length ∧ i - 1 < p.ln.length ∧ (lnT x.1 (i - 1)).length = (lnT p (i - 1)).length + 1 ∧ (i = 0 → (lnT x.1 0).getD 0 0 = 7) ∧ (0 < i → (lnT x.1 (i - 1)).getD (lnT p (i - 1)).length 0 = 7) ∧ shaped x.1 = true ∧ (lnT p (i - 1)).length ≤ 24)
    ⟨fun ⟨a, b, c, d, e, f, g, h, k, l⟩ => ⟨a, b, c, d, e, f, g, h, k, l⟩, fun ⟨a, b, c, d, e, f, g, h, k, l⟩ => ⟨a, b, c, d, e, f, g, h, k, l⟩⟩
structure OkB (p : Pt) (x : Pt × Int) : Prop where
  er : x.2 = 0
  ct : cntP x.1 (-1) 7 = p.ln.length + 1
  sh : shaped x.1 = true
  le : p.ln.length ≤ 4 ∧ 1 ≤ p.ln.length
instance (p : Pt) (x : Pt × Int) : Decidable (OkB p x) :=
  decidable_of_iff (x.2 = 0 ∧ cntP x.1 (-1) 7 = p.ln.length + 1 ∧ shaped x.1 = true ∧ (p.ln.length ≤ 4 ∧ 1 ≤ p.ln.length)) ⟨fun ⟨a, b, c, d⟩ => ⟨a, b, c, d⟩, fun ⟨a, b, c, d⟩ => ⟨a, b, c, d⟩⟩
/-- may the first message be known ahead? -/
def mayF (p : Pt) : Bool := decide ((lnT p 0).getD 0 0 = 1) && (decide ((lnT p 0).length = 1) || (decide ((lnT p 0).length = 2) && decide ((lnT p 0).getD 1 0 = 2)))
structure OkC (p : Pt) (x : Pt × Int) : Prop where
  er : x.2 = 0
  ln : x.1.ln.length + 1 = p.ln.length
  nm : x.1.nm = p.nm ++ fbW
  fr : (x.1.ln.getD 0 (0, [])).1 = 1
  l0 : 0 < x.1.ln.length
  ct : cntP x.1 0 1 = 1
  bl : x.1.b0.length = p.b0.length + (lnT p 0).length
  b0 : x.1.b0.getD 0 0 = 1
  sh : shaped x.1 = true
instance (p : Pt) (x : Pt × Int) : Decidable (OkC p x) :=
  decidable_of_iff (x.2 = 0 ∧ x.1.ln.length + 1 = p.ln.length ∧ x.1.nm = p.nm ++ fbW ∧ (x.1.ln.getD 0 (0, [])).1 = 1 ∧ 0 < x.1.ln.length ∧ cntP x.1 0 1 = 1 ∧ x.1.b0.length = p.b0.length + (lnT p 0).length ∧ x.1.b0.getD 0 0 = 1 ∧ shaped x.1 = true)
    ⟨fun ⟨a, b, c, d, e, f, g, h, k⟩ => ⟨a, b, c, d, e, f, g, h, k⟩, fun ⟨a, b, c, d, e, f, g, h, k⟩ => ⟨a, b, c, d, e, f, g, h, k⟩⟩
def okI (p : Pt) (i : Nat) : Bool := if i ≤ p.ln.length then decide (OkA p i (mdf p [pk i])) else decide ((mdf p [pk i]).2 = 1)
def okT (p : Pt) : Bool := (List.range 6).all (okI p) && decide (OkB p (mdf p (pks.take (p.ln.length + 1)))) && (if mayF p = true then decide (OkC p (mdf p [fbW])) else decide ((mdf p [fbW]).2 = 1)) && decide (0 < (lnT p 0).length) && decide (chk p = 0) && decide (p.nm.size ≤ 100)
theorem tab_ok : tab.all okT = true := by kernel_rfl
structure TbF (p : Pt) : Prop where
  a : ∀ i, i < 6 → i ≤ p.ln.length → OkA p i (mdf p [pk i])
  n : ∀ i, i < 6 → ¬ i ≤ p.ln.length → (mdf p [pk i]).2 = 1
  b : OkB p (mdf p (pks.take (p.ln.length + 1)))
  c : mayF p = true → OkC p (mdf p [fbW])
  d : mayF p = false → (mdf p [fbW]).2 = 1
  l0 : 0 < (lnT p 0).length
  ck : chk p = 0
  nm : p.nm.size ≤ 100
theorem tab_f {p : Pt} (hp : p ∈ tab) : TbF p := by
  have h := List.all_eq_true.1 tab_ok p hp
  unfold okT at h
  simp only [Bool.and_eq_true, decide_eq_true_eq] at h
  obtain ⟨⟨⟨⟨⟨h1, h2⟩, h3⟩, h4⟩, h5⟩, h6⟩ := h
  have hI : ∀ i, i < 6 → okI p i = true := fun i hi => List.all_eq_true.1 h1 i (List.mem_range.2 hi)
  refine ⟨fun i hi hn => ?_, fun i hi hn => ?_, h2, fun hm => ?_, fun hm => ?_, h4, h5, h6⟩
  · have := hI i hi
    unfold okI at this
    rw [if_pos hn] at this
    exact of_decide_eq_true this
  · have := hI i hi
    unfold okI at this
    rw [if_neg hn] at this
    exact of_decide_eq_true this
  · rw [if_pos hm] at h3
    exact of_decide_eq_true h3
  · rw [if_neg (by simp [hm])] at h3
    exact of_decide_eq_true h3
end Go.Pat
