import Derived.Test.YtigapdfefapdgaaTraceBh
import Derived.Test.YtigapdfefapdgaaChecked
namespace Go.Proofs.Ytigapdfefapdgaa
set_option linter.unusedSimpArgs false
open Go.ChangeShapes Go.WideShapes Go.ChangeAt Go.RowKit Go.Pin
theorem nilf : ∀ (c : Array Value) (w : World), (binOp BinOp.eql 58 (.func (.func 39) #[] c) Value.nilFunc).run Try.prog w = .ok (.bool false) w := fun _ _ => rfl
theorem bl {W : World} (o : Obj) : Below W.heap.size W (W.alloc o) := (Below.refl _ _).alloc (Nat.le_refl _) _
theorem St.not_row {bS bR bK bW bA b1 b2 bT bG bO R : Nat} {vW : Value} {n stop : Int} {all : Bool} {W : World} {g : Int} {ov : Bool} (h : St bS bR bK bW bA b1 b2 bT bG bO R vW n stop all W g ov) {B m : Nat} {u : Value} {xs : List Value} (ho : W.ownsRow B 37 2 u m xs) : ∀ k, IsBox bS bR bK bW bA b1 b2 bT bG bO k → u.ownBlock ≠ some k := by
  intro k hk e
  rcases ho.2 with ⟨rfl, _⟩ | ⟨gg, cap, cur, rfl, _, hg, _⟩
  · cases e
  · cases e
    have key : ∀ {t : TypeId} {v : Value}, Boxed W gg t v → t ≠ 37 → False := fun hb ht => by
      have := (show W.heap[gg]? = _ from hb).symm.trans hg
      simp at this
      exact ht this.2
    rcases hk with rfl | rfl | rfl | rfl | rfl | rfl | rfl | rfl | rfl | rfl
    · exact key h.s (by decide)
    · exact key h.r (by decide)
    · exact key h.k (by decide)
    · exact key h.w (by decide)
    · exact key h.a (by decide)
    · exact key h.c1 (by decide)
    · exact key h.c2 (by decide)
    · exact key h.t (by decide)
    · exact key h.g (by decide)
    · exact key h.o (by decide)
theorem sl_pre {w : World} {a : Option Addr} {N c : Nat} {A M : List (Int × Int)} (h : Sl w (.slice a N c) 2 (evC (A ++ M)) N) (hN : (A ++ M).length = N) : Sl w (.slice a A.length c) 2 (evC A) A.length := by
  obtain ⟨_, a', c', e, hc, hr⟩ := h
  cases e
  rw [List.length_append] at hN
  refine ⟨evC_len A, a, c, rfl, by omega, ?_⟩
  rcases hr with h0 | ⟨b, o, e, hcc⟩
  · exact .inl (by omega)
  · exact .inr ⟨b, o, e, fun j x hx => hcc j x (evC_pre A M j x hx)⟩
theorem wrap_sum (a k N : Nat) (h : N = a + k) (ha : a ≤ 2000) (hk : k ≤ 2000) : wrap64 ((a : Int) + (k : Int)) = (N : Int) ∧ IntKind.i64.wrap ((a : Int) + (k : Int)) = (N : Int) ∧ N ≤ 4000 := by
  refine ⟨by unfold wrap64; omega, by rw [IntKind.wrap_i64]; omega, by omega⟩
theorem zero_box {w : World} (t : TypeId) (v : Value) : Boxed ((w.alloc (.cells #[v] t)).setCell ⟨w.heap.size, 0, none⟩ v) w.heap.size t v ∧ Below w.heap.size w ((w.alloc (.cells #[v] t)).setCell ⟨w.heap.size, 0, none⟩ v) ∧ ((w.alloc (.cells #[v] t)).setCell ⟨w.heap.size, 0, none⟩ v).heap.size = w.heap.size + 1 :=
  ⟨(Boxed.new w t v).set _, (bl _).setCell (p := ⟨w.heap.size, 0, none⟩) (Nat.le_refl _) _, by simp [World.setCell]⟩
set_option maxRecDepth 100000 in
set_option maxHeartbeats 4000000 in
theorem since_walk (vl : Value) (l : List (Int × Int × Bool)) (n : Int) (_wn : (Lit.int .i64 n).wf = true) (stop : Int) (_ws : (Lit.int .i64 stop).wf = true) (w : World) (ha : Sl w vl 3 (stC l) l.length) :
    Calls Try.prog 8 #[vl, .int .i64 n, .int .i64 stop] w fun e w' => e = .returned (.bool true) ∧ Below w.heap.size w w' := by
  have hmf : ∀ (fn : Fn) (first cap : Array Value) (w : World), (Instr.makeFunc fn first cap).run Try.prog w = .ok (.func fn first cap) w := fun _ _ _ _ => rfl
  have hen : ∀ args w, (callFunc 39 args).run Try.prog w = .ok (.enter 39 args) w := enters_of Try.func39 (by kernel_rfl) rfl
  have hnf := nilf
  obtain ⟨A, hA⟩ : ∃ A, lg (l.take 2000) = A := ⟨_, rfl⟩
  have lA : A.length ≤ 2000 := by rw [← hA]; exact lg_bd l (Nat.le_refl _)
  have gA := bl (W := w) (.cells #[.int .i64 stop] 3)
  have bA0 := Boxed.new w 3 (.int .i64 stop)
  have sA : (w.alloc (.cells #[.int .i64 stop] 3)).heap.size = w.heap.size + 1 := by simp
  obtain ⟨wA, hwA⟩ : ∃ wA, w.alloc (.cells #[.int .i64 stop] 3) = wA := ⟨_, rfl⟩
  rw [hwA] at gA bA0 sA
  have HsA : Hid _ := sA
  clear sA
  have HF : Hid (∀ _ : Unit, _) := fun _ => filled_any vl l wA (sl_below gA ha)
  clear ha
  go_enter Try.func8, Try.ntmps8
  go_wp2_with (fail)
  refine (HF.out ()).mono ?_
  rintro e w1 ⟨rfl, ⟨vs, r1⟩, g1⟩
  rw [hA] at r1
  clear HF
  have oR := r1.2.2
  have bS1 := bbelow bA0 g1
  have gw1 := gA.trans (g1.mono gA.size)
  -- the boxes of r and ok
  have nB := Boxed.new w1 23 (.pointer none)
  have gB := bl (W := w1) (.cells #[.pointer none] 23)
  obtain ⟨wB, hwB⟩ : ∃ wB, w1.alloc (.cells #[.pointer none] 23) = wB := ⟨_, rfl⟩
  have sB0 : wB.heap.size = w1.heap.size + 1 := by rw [← hwB]; simp
  have sB : Hid (wB.heap.size = w1.heap.size + 1) := sB0
  clear sB0
  rw [hwB] at nB gB
  have nC := Boxed.new wB 4 (.bool false)
  have gC := bl (W := wB) (.cells #[.bool false] 4)
  obtain ⟨wC, hwC⟩ : ∃ wC, wB.alloc (.cells #[.bool false] 4) = wC := ⟨_, rfl⟩
  have sC0 : wC.heap.size = wB.heap.size + 1 := by rw [← hwC]; simp
  have sC : Hid (wC.heap.size = wB.heap.size + 1) := sC0
  clear sC0
  rw [hwC] at nC gC
  have nB2 := bbelow nB gC
  have x1 := nB2.cell
  have x2 := nB2.frozen
  obtain ⟨wD, hwD⟩ : ∃ wD, wC.setCell ⟨w1.heap.size, 0, none⟩ (.pointer (some ⟨wA.heap.size, 0, none⟩)) = wD := ⟨_, rfl⟩
  have gD : Below w1.heap.size w1 wD := by rw [← hwD]; exact (gB.trans (gC.mono gB.size)).setCell (p := ⟨w1.heap.size, 0, none⟩) (Nat.le_refl _) _
  have nD : Boxed wD wB.heap.size 4 (.bool false) := by rw [← hwD]; exact bput nC (by have := sB.out; omega) _
  have rD : Boxed wD w1.heap.size 23 (.pointer (some ⟨wA.heap.size, 0, none⟩)) := by rw [← hwD]; exact nB2.set _
  have sD0 : wD.heap.size = wC.heap.size := by rw [← hwD]; simp [World.setCell]
  have sD : Hid (wD.heap.size = wC.heap.size) := sD0
  clear sD0
  have x3 := nD.cell
  have x4 := nD.frozen
  obtain ⟨wE, hwE⟩ : ∃ wE, wD.setCell ⟨wB.heap.size, 0, none⟩ (.bool true) = wE := ⟨_, rfl⟩
  have gE : Below w1.heap.size w1 wE := by rw [← hwE]; exact gD.setCell (p := ⟨wB.heap.size, 0, none⟩) (by have := sB.out; simp; omega) _
  have kE : Boxed wE wB.heap.size 4 (.bool true) := by rw [← hwE]; exact nD.set _
  have rE : Boxed wE w1.heap.size 23 (.pointer (some ⟨wA.heap.size, 0, none⟩)) := by rw [← hwE]; exact bput rD (by have := sB.out; omega) _
  have sE0 : wE.heap.size = wD.heap.size := by rw [← hwE]; simp [World.setCell]
  have sE : Hid (wE.heap.size = wC.heap.size) := sE0.trans sD.out
  clear sE0
  have bSE := bbelow bS1 gE
  have recE := r1.below gE
  have x5 := kE.cell
  have x6 := rE.cell
  have gwE := gw1.trans (gE.mono gw1.size)
  clear nB gB nC gC nB2 gD nD rD
  go_wp2_with (fail)
  refine (tEvents_any _ vs A (by omega) wE recE.opt).mono ?_
  rintro e w3 ⟨u, rfl, ou, g3⟩
  clear x1 x2 x3 x4 x5 x6
  have bS3 := bbelow bSE g3
  have k3 := bbelow kE g3
  have r3b := bbelow rE g3
  have rec3 := recE.below g3
  have gw3 := gwE.trans (g3.mono gwE.size)
  obtain ⟨ua, uc, rfl⟩ := owns_len ou
  go_wp2_with (fail)
  refine (behind_x _ A n w3 (sl_of_owns ou)).mono ?_
  rintro e w3' ⟨v, rfl, hv, hw3, hvb⟩
  obtain rfl : w3 = w3' := hw3.symm
  clear hw3
  obtain ⟨wt, hwt⟩ : ∃ wt, beh A n = wt := ⟨_, rfl⟩
  rw [hwt] at hv
  have lW : wt.length ≤ 2000 := by rw [← hwt]; unfold beh; rw [List.length_drop]; omega
  obtain ⟨va, vc, rfl⟩ := sl_len hv
  -- the box of want
  have nF := Boxed.new w3 25 (.slice va wt.length vc)
  have gF := bl (W := w3) (.cells #[.slice va wt.length vc] 25)
  obtain ⟨wF, hwF⟩ : ∃ wF, w3.alloc (.cells #[.slice va wt.length vc] 25) = wF := ⟨_, rfl⟩
  have sF0 : wF.heap.size = w3.heap.size + 1 := by rw [← hwF]; simp
  have sF : Hid (wF.heap.size = w3.heap.size + 1) := sF0
  clear sF0
  rw [hwF] at nF gF
  have bSF := bbelow bS3 gF
  have y1 := bSF.cell
  have y2 := nF.cell
  have HWT : Hid _ := hwt
  have HA : Hid _ := hA
  have HVB : Hid _ := hvb
  have HOU : Hid (w3.ownsRow wE.heap.size 37 2 (.slice ua A.length uc) A.length (evC A)) := ou
  have HV : Hid (Sl w3 (.slice va wt.length vc) 2 (evC wt) wt.length) := hv
  clear hwt hA hvb ou hv
  have HREG : Hid (_ ∧ _ ∧ _ ∧ _ ∧ _ ∧ _ ∧ _ ∧ _) := And.intro bSF (And.intro nF (And.intro gF (And.intro r3b (And.intro k3 (And.intro rec3 (And.intro gw3 bS3))))))
  clear bS1 gw1 bSE recE gwE kE rE bS3 k3 r3b rec3 gw3 nF gF bSF
  go_upto_region 6 with fail
  go_cut [11] (fun v wx => v = .pointer (some ⟨wF.heap.size, 0, none⟩) ∧ ∃ all, Boxed wx wF.heap.size 4 (.bool all) ∧ Below wF.heap.size wF wx ∧ wx.heap.size = wF.heap.size + 1 ∧ all = (decide (stop < 1) || decide ((wt.length : Int) ≤ stop)))
  case first =>
    by_cases c1 : stop < 1
    · have h1 : decide (stop < 1) = true := decide_eq_true c1
      have h2 : True := trivial
      have nG := Boxed.new wF 4 (.bool true)
      have gG := bl (W := wF) (.cells #[.bool true] 4)
      obtain ⟨wG, hwG⟩ : ∃ wG, wF.alloc (.cells #[.bool true] 4) = wG := ⟨_, rfl⟩
      have sG0 : wG.heap.size = wF.heap.size + 1 := by rw [← hwG]; simp
      rw [hwG] at nG gG
      have HX : Hid (_ ∧ _ ∧ _) := And.intro nG (And.intro gG sG0)
      clear nG gG sG0
      go_wp2_with fail
      go_meet
      exact ⟨rfl, true, HX.out.1, HX.out.2.1, HX.out.2.2, by simp [h1]⟩
    · have h1 : decide (stop < 1) = false := decide_eq_false c1
      by_cases c2 : (wt.length : Int) ≤ stop
      · have h2 : decide ((wt.length : Int) ≤ stop) = true := decide_eq_true c2
        have nG := Boxed.new wF 4 (.bool true)
        have gG := bl (W := wF) (.cells #[.bool true] 4)
        obtain ⟨wG, hwG⟩ : ∃ wG, wF.alloc (.cells #[.bool true] 4) = wG := ⟨_, rfl⟩
        have sG0 : wG.heap.size = wF.heap.size + 1 := by rw [← hwG]; simp
        rw [hwG] at nG gG
        have HX : Hid (_ ∧ _ ∧ _) := And.intro nG (And.intro gG sG0)
        clear nG gG sG0
        go_wp2_with fail
        go_meet
        exact ⟨rfl, true, HX.out.1, HX.out.2.1, HX.out.2.2, by simp [h1, h2]⟩
      · have h2 : decide ((wt.length : Int) ≤ stop) = false := decide_eq_false c2
        have zG := zero_box (w := wF) 4 (.bool false)
        have cG := (Boxed.new wF 4 (.bool false)).cell
        have fG := (Boxed.new wF 4 (.bool false)).frozen
        obtain ⟨wG0, hwG0⟩ : ∃ wG0, wF.alloc (.cells #[(.bool false)] 4) = wG0 := ⟨_, rfl⟩
        rw [hwG0] at zG cG fG
        obtain ⟨wG, hwG⟩ : ∃ wG, wG0.setCell ⟨wF.heap.size, 0, none⟩ (.bool false) = wG := ⟨_, rfl⟩
        rw [hwG] at zG
        obtain ⟨nG, gG, sG0⟩ := zG
        have sG : Hid (wG.heap.size = wF.heap.size + 1) := sG0
        clear sG0
        have HX : Hid (_ ∧ _ ∧ _) := And.intro nG (And.intro gG sG.out)
        clear nG gG sG
        go_wp2_with fail
        go_meet
        exact ⟨rfl, false, HX.out.1, HX.out.2.1, HX.out.2.2, by simp [h1, h2]⟩
  case rest =>
    obtain ⟨rfl, all, nG, gG, sG0, hall⟩ := hcut
    have HALL : Hid _ := hall
    clear hall y1 y2
    obtain ⟨bSF, nF, gF, r3b, k3, rec3, gw3, bS3⟩ := HREG.out
    clear HREG
    obtain ⟨wG, hwc⟩ : ∃ wG, wG = wc := ⟨_, rfl⟩
    subst hwc
    have bSG := bbelow bSF gG
    have y3 := nG.cell
    have y4 := bSG.cell
    have y5 := bSG.frozen
    have y6 := (bbelow nF gG).cell
    have lw1 : w.heap.size < w1.heap.size := by have := HsA.out; have := g1.size; omega
    have lwE : w.heap.size < wE.heap.size := by have := sB.out; have := sC.out; have := sE.out; omega
    have g3G : Below w3.heap.size w3 wG := gF.trans (gG.mono gF.size)
    have recG := rec3.below g3G
    have gwG := gw3.trans (g3G.mono gw3.size)
    have rG := bbelow r3b g3G
    have kG := bbelow k3 g3G
    have wG' := bbelow nF gG
    have oG := owns_below HOU.out g3G
    have vG := sl_below g3G HV.out
    go_upto_if 37 with fail
    have HZ : Hid (_ ∧ _ ∧ _ ∧ _ ∧ _ ∧ _ ∧ _ ∧ _ ∧ _ ∧ _) := And.intro bSG (And.intro nG (And.intro recG (And.intro gwG (And.intro rG (And.intro kG (And.intro wG' (And.intro oG (And.intro vG sG0))))))))
    clear bSG nG recG gwG rG kG wG' oG vG sG0 gG g3G bSF nF gF r3b k3 rec3 gw3 bS3
    go_cut [] (fun wx => ∃ (stp : Int) (all : Bool), ((all = true ∧ stp = wt.length) ∨ (all = false ∧ 1 ≤ stp ∧ stp < wt.length)) ∧ Boxed wx w.heap.size 3 (.int .i64 stp) ∧ Boxed wx w1.heap.size 23 (.pointer (some ⟨wA.heap.size, 0, none⟩)) ∧ Boxed wx wB.heap.size 4 (.bool true) ∧ Boxed wx w3.heap.size 25 (.slice va wt.length vc) ∧ Boxed wx wF.heap.size 4 (.bool all) ∧ Rec wA.heap.size wx wA.heap.size vs A ∧ wx.ownsRow wE.heap.size 37 2 (.slice ua A.length uc) A.length (evC A) ∧ Sl wx (.slice va wt.length vc) 2 (evC wt) wt.length ∧ Below w.heap.size w wx ∧ wx.heap.size = wF.heap.size + 1)
    case first =>
      obtain ⟨bSG, nG, recG, gwG, rG, kG, wG', oG, vG, sG0⟩ := HZ.out
      cases all with
      | true =>
        obtain ⟨wH, hwH⟩ : ∃ wH, wG.setCell ⟨w.heap.size, 0, none⟩ (.int .i64 wt.length) = wH := ⟨_, rfl⟩
        have sH0 : wH.heap.size = wG.heap.size := by rw [← hwH]; simp [World.setCell]
        have gSH : Grow (fun k => k = w.heap.size) wG wH := by rw [← hwH]; exact grow_set (S := fun k => k = w.heap.size) (grow_refl _ _) (.inl rfl) _ _
        have ne : ∀ {b : Nat}, w.heap.size < b → ¬ b = w.heap.size := fun h => by omega
        have hX : ∃ (stp : Int) (all : Bool), ((all = true ∧ stp = wt.length) ∨ (all = false ∧ 1 ≤ stp ∧ stp < wt.length)) ∧ Boxed wH w.heap.size 3 (.int .i64 stp) ∧ Boxed wH w1.heap.size 23 (.pointer (some ⟨wA.heap.size, 0, none⟩)) ∧ Boxed wH wB.heap.size 4 (.bool true) ∧ Boxed wH w3.heap.size 25 (.slice va wt.length vc) ∧ Boxed wH wF.heap.size 4 (.bool all) ∧ Rec wA.heap.size wH wA.heap.size vs A ∧ wH.ownsRow wE.heap.size 37 2 (.slice ua A.length uc) A.length (evC A) ∧ Sl wH (.slice va wt.length vc) 2 (evC wt) wt.length ∧ Below w.heap.size w wH ∧ wH.heap.size = wF.heap.size + 1 := by
          refine ⟨wt.length, true, .inl ⟨rfl, rfl⟩, ?_, bgrow rG gSH (ne lw1), bgrow kG gSH (ne (by have := sB.out; omega)), bgrow wG' gSH (ne (by have := sB.out; have := sC.out; have := sE.out; have := g3.size; omega)), bgrow nG gSH (ne (by have := sF.out; have := sB.out; have := sC.out; have := sE.out; have := g3.size; omega)), recG.grow gSH (fun k hk e => by subst e; have := recG.ge _ hk; have := HsA.out; omega), gSH.owns oG (fun k hk e => by subst e; have := (HOU.out.lt _ hk).1; omega), sl_grow gSH vG (fun k hk e => by subst e; have := (HOU.out.lt _ (HVB.out _ hk)).1; omega), gwG.trans (gSH.below (fun k hk => by subst hk; exact Nat.le_refl _) gwG.size), sH0.trans sG0⟩
          rw [← hwH]; exact bSG.set _
        have HX : Hid (∃ (stp : Int) (all : Bool), ((all = true ∧ stp = wt.length) ∨ (all = false ∧ 1 ≤ stp ∧ stp < wt.length)) ∧ Boxed wH w.heap.size 3 (.int .i64 stp) ∧ Boxed wH w1.heap.size 23 (.pointer (some ⟨wA.heap.size, 0, none⟩)) ∧ Boxed wH wB.heap.size 4 (.bool true) ∧ Boxed wH w3.heap.size 25 (.slice va wt.length vc) ∧ Boxed wH wF.heap.size 4 (.bool all) ∧ Rec wA.heap.size wH wA.heap.size vs A ∧ wH.ownsRow wE.heap.size 37 2 (.slice ua A.length uc) A.length (evC A) ∧ Sl wH (.slice va wt.length vc) 2 (evC wt) wt.length ∧ Below w.heap.size w wH ∧ wH.heap.size = wF.heap.size + 1) := hX
        clear hX sH0 gSH bSG nG recG gwG rG kG wG' oG vG sG0 ne
        go_wp2_with fail
        go_meet
        exact HX.out
      | false =>
        have hX : ∃ (stp : Int) (all : Bool), ((all = true ∧ stp = wt.length) ∨ (all = false ∧ 1 ≤ stp ∧ stp < wt.length)) ∧ Boxed wG w.heap.size 3 (.int .i64 stp) ∧ Boxed wG w1.heap.size 23 (.pointer (some ⟨wA.heap.size, 0, none⟩)) ∧ Boxed wG wB.heap.size 4 (.bool true) ∧ Boxed wG w3.heap.size 25 (.slice va wt.length vc) ∧ Boxed wG wF.heap.size 4 (.bool all) ∧ Rec wA.heap.size wG wA.heap.size vs A ∧ wG.ownsRow wE.heap.size 37 2 (.slice ua A.length uc) A.length (evC A) ∧ Sl wG (.slice va wt.length vc) 2 (evC wt) wt.length ∧ Below w.heap.size w wG ∧ wG.heap.size = wF.heap.size + 1 := by
          have h := HALL.out
          have h1 : ¬ stop < 1 := fun c => by simp [c] at h
          have h2 : ¬ (wt.length : Int) ≤ stop := fun c => by simp [c] at h
          exact ⟨stop, false, .inr ⟨rfl, by omega, by omega⟩, bSG, rG, kG, wG', nG, recG, oG, vG, gwG, sG0⟩
        have HX : Hid (∃ (stp : Int) (all : Bool), ((all = true ∧ stp = wt.length) ∨ (all = false ∧ 1 ≤ stp ∧ stp < wt.length)) ∧ Boxed wG w.heap.size 3 (.int .i64 stp) ∧ Boxed wG w1.heap.size 23 (.pointer (some ⟨wA.heap.size, 0, none⟩)) ∧ Boxed wG wB.heap.size 4 (.bool true) ∧ Boxed wG w3.heap.size 25 (.slice va wt.length vc) ∧ Boxed wG wF.heap.size 4 (.bool all) ∧ Rec wA.heap.size wG wA.heap.size vs A ∧ wG.ownsRow wE.heap.size 37 2 (.slice ua A.length uc) A.length (evC A) ∧ Sl wG (.slice va wt.length vc) 2 (evC wt) wt.length ∧ Below w.heap.size w wG ∧ wG.heap.size = wF.heap.size + 1) := hX
        clear hX bSG nG recG gwG rG kG wG' oG vG sG0
        go_wp2_with fail
        go_meet
        exact HX.out
    case rest =>
      obtain ⟨wH, hwc⟩ : ∃ wH, wH = wc := ⟨_, rfl⟩
      subst hwc
      clear HZ HALL y3 y4 y5 y6
      rename_i all0 _ _ _ _
      obtain ⟨stp, all, hsa, hS, hR, hK, hW, hAl, recH, ouH, hvH, gwH, hsz⟩ := hcut
      have HsH : Hid (wH.heap.size = wF.heap.size + 1) := hsz
      have y7 := hR.cell
      clear hsz
      go_wp2_with (fail)
      refine (since_any _ n wH ⟨_, rfl⟩).mono ?_
      rintro e wJ ⟨rfl, hwJ⟩
      have nJ1 : Boxed wJ wH.heap.size 23 (.pointer (some ⟨wA.heap.size, 0, none⟩)) := by rw [hwJ]; exact (Boxed.new _ _ _).alloc _
      have nJ2 : Boxed wJ (wH.heap.size + 1) 3 (.int .i64 n) := by
        have := Boxed.new (wH.alloc (.cells #[.pointer (some ⟨wA.heap.size, 0, none⟩)] 23)) 3 (.int .i64 n)
        rw [World.size_alloc] at this
        rw [hwJ]; exact this
      have gJ : Below wH.heap.size wH wJ := by rw [hwJ]; exact (bl _).alloc (by simp) _
      have sJ0 : wJ.heap.size = wH.heap.size + 2 := by rw [hwJ]; simp
      have sJ : Hid (wJ.heap.size = wH.heap.size + 2) := sJ0
      clear sJ0 hwJ
      have nK0 := Boxed.new wJ 58 .nilFunc
      have gK0 := bl (W := wJ) (.cells #[.nilFunc] 58)
      obtain ⟨wK0, hwK0⟩ : ∃ wK0, wJ.alloc (.cells #[.nilFunc] 58) = wK0 := ⟨_, rfl⟩
      have sK0 : wK0.heap.size = wJ.heap.size + 1 := by rw [← hwK0]; simp
      rw [hwK0] at nK0 gK0
      have kc := nK0.cell
      have kf := nK0.frozen
      have nK := nK0.set (.func (.func 39) #[] #[.pointer (some ⟨wH.heap.size, 0, none⟩), .pointer (some ⟨wH.heap.size + 1, 0, none⟩)])
      have gK := gK0.setCell (p := ⟨wJ.heap.size, 0, none⟩) (Nat.le_refl _) (.func (.func 39) #[] #[.pointer (some ⟨wH.heap.size, 0, none⟩), .pointer (some ⟨wH.heap.size + 1, 0, none⟩)])
      have kst : (store ⟨wJ.heap.size, 0, none⟩ (.func (.func 39) #[] #[.pointer (some ⟨wH.heap.size, 0, none⟩), .pointer (some ⟨wH.heap.size + 1, 0, none⟩)])).run Try.prog wK0 = .ok () (wK0.setCell ⟨wJ.heap.size, 0, none⟩ (.func (.func 39) #[] #[.pointer (some ⟨wH.heap.size, 0, none⟩), .pointer (some ⟨wH.heap.size + 1, 0, none⟩)])) := by
        rw [run_store Try.prog wK0 ⟨wJ.heap.size, 0, none⟩ (.func (.func 39) #[] #[.pointer (some ⟨wH.heap.size, 0, none⟩), .pointer (some ⟨wH.heap.size + 1, 0, none⟩)]) .plain rfl]
        simp [kc, kf]
      obtain ⟨wK, hwK⟩ : ∃ wK, wK0.setCell ⟨wJ.heap.size, 0, none⟩ (.func (.func 39) #[] #[.pointer (some ⟨wH.heap.size, 0, none⟩), .pointer (some ⟨wH.heap.size + 1, 0, none⟩)]) = wK := ⟨_, rfl⟩
      have sK1 : wK.heap.size = wK0.heap.size := by rw [← hwK]; simp [World.setCell]
      have sK : Hid (wK.heap.size = wJ.heap.size + 1) := sK1.trans sK0
      rw [hwK] at nK gK kst
      clear sK0 sK1 nK0 gK0 kc kf
      have t1 := nK.cell
      have zL := zero_box (w := wK) 3 (.int .i64 0)
      have cL := (Boxed.new wK 3 (.int .i64 0)).cell
      have fL := (Boxed.new wK 3 (.int .i64 0)).frozen
      obtain ⟨wL0, hwL0⟩ : ∃ wL0, wK.alloc (.cells #[(.int .i64 0)] 3) = wL0 := ⟨_, rfl⟩
      rw [hwL0] at zL cL fL
      obtain ⟨wL, hwL⟩ : ∃ wL, wL0.setCell ⟨wK.heap.size, 0, none⟩ (.int .i64 0) = wL := ⟨_, rfl⟩
      rw [hwL] at zL
      obtain ⟨nL, gL, sL0⟩ := zL
      have sL : Hid (wL.heap.size = wK.heap.size + 1) := sL0
      clear sL0
      have zM := zero_box (w := wL) 4 (.bool false)
      have cM := (Boxed.new wL 4 (.bool false)).cell
      have fM := (Boxed.new wL 4 (.bool false)).frozen
      obtain ⟨wM0, hwM0⟩ : ∃ wM0, wL.alloc (.cells #[(.bool false)] 4) = wM0 := ⟨_, rfl⟩
      rw [hwM0] at zM cM fM
      obtain ⟨wM, hwM⟩ : ∃ wM, wM0.setCell ⟨wL.heap.size, 0, none⟩ (.bool false) = wM := ⟨_, rfl⟩
      rw [hwM] at zM
      obtain ⟨nM, gM, sM0⟩ := zM
      have sM : Hid (wM.heap.size = wL.heap.size + 1) := sM0
      clear sM0
      have gLM : Below wK.heap.size wK wM := gL.trans (gM.mono gL.size)
      have nKM := bbelow nK gLM
      have t2 := nKM.cell
      have gHM : Below wH.heap.size wH wM := (gJ.trans (gK.mono gJ.size)).trans (gLM.mono (Nat.le_trans gJ.size gK.size))
      have gJM : Below wJ.heap.size wJ wM := gK.trans (gLM.mono gK.size)
      have stM : St w.heap.size w1.heap.size wB.heap.size w3.heap.size wF.heap.size wH.heap.size (wH.heap.size + 1) wJ.heap.size wK.heap.size wL.heap.size wA.heap.size (.slice va wt.length vc) n stp all wM 0 false :=
        ⟨bbelow hS gHM, bbelow hR gHM, bbelow hK gHM, bbelow hW gHM, bbelow hAl gHM, nKM, bbelow nL gM, nM, bbelow nJ1 gJM, bbelow nJ2 gJM⟩
      have recM := recH.below gHM
      have ouM := owns_below ouH gHM
      have hvM := sl_below gHM hvH
      have gwM := gwH.trans (gHM.mono gwH.size)
      have hord : Ord w.heap.size w1.heap.size wB.heap.size w3.heap.size wF.heap.size wH.heap.size (wH.heap.size + 1) wJ.heap.size wK.heap.size wL.heap.size := by
        have := HsA.out; have := gA.size; have := g1.size; have := sB.out; have := sC.out; have := sE.out; have := g3.size; have := sF.out; have := HsH.out; have := sJ.out; have := sK.out; have := sL.out
        unfold Ord
        omega
      have hbx : ∀ j, IsBox w.heap.size w1.heap.size wB.heap.size w3.heap.size wF.heap.size wH.heap.size (wH.heap.size + 1) wJ.heap.size wK.heap.size wL.heap.size j → w.heap.size ≤ j := by
        have := HsA.out; have := gA.size; have := g1.size; have := sB.out; have := sC.out; have := sE.out; have := g3.size; have := sF.out; have := HsH.out; have := sJ.out; have := sK.out; have := sL.out
        rintro j (rfl | rfl | rfl | rfl | rfl | rfl | rfl | rfl | rfl | rfl) <;> omega
      have hnr : ∀ j, (Value.slice va wt.length vc).ownBlock = some j ∨ (Value.slice ua A.length uc).ownBlock = some j → ¬ IsBox w.heap.size w1.heap.size wB.heap.size w3.heap.size wF.heap.size wH.heap.size (wH.heap.size + 1) wJ.heap.size wK.heap.size wL.heap.size j ∧ ¬ Blk wA.heap.size vs j ∧ j < wM.heap.size := by
        intro j hj
        have hj' : (Value.slice ua A.length uc).ownBlock = some j := by rcases hj with h | h; exact HVB.out j h; exact h
        refine ⟨fun hb => stM.not_row ouM j hb hj', fun hb => ?_, (ouM.lt j hj').2⟩
        have h1 := (HOU.out.lt j hj').1
        have h2 := r1.lt j hb
        have := HsA.out; have := gA.size; have := g1.size; have := sB.out; have := sC.out; have := sE.out; have := g3.size; have := sF.out; have := HsH.out; have := sJ.out; have := sK.out; have := sL.out
        omega
      have jM : Jt w wA.heap.size w.heap.size w1.heap.size wB.heap.size w3.heap.size wF.heap.size wH.heap.size (wH.heap.size + 1) wJ.heap.size wK.heap.size wL.heap.size wA.heap.size (.slice va wt.length vc) (.slice ua A.length uc) vs n stp all A false 0 wM :=
        ⟨vs, stM, by simpa [nines] using recM, recM.opt.sl, sl_of_owns ouM, by rw [HWT.out]; exact hvM, hnr, .inl rfl, by have := recM.lt _ (.inl rfl); omega, gwM⟩
      have HC1 : Hid (∀ _ : Unit, _) := fun _ => loop1 oR gA.size hbx hord jM recM.opt lA (by rw [HWT.out]; exact hsa)
      have HOU5 : Hid (∀ j, (Value.slice ua A.length uc).ownBlock = some j → wE.heap.size ≤ j) := fun j hj => (HOU.out.lt j hj).1
      clear nJ1 nJ2 gJ nK gK nL gL nM gM gLM nKM gHM gJM stM recM ouM hvM gwM hord hbx hnr jM hS hR hK hW hAl recH ouH hvH gwH HOU HV
      go_wp2_with (fail)
      refine (HC1.out ()).mono ?_
      rintro e W5 ⟨rfl, k, ov, hk, hk2, vs5, st5, rec5, s1, s2, s3, d1, d2, hB5, gw5⟩
      clear HC1 s1 s3 d2 t1 t2 kst cL fL cM fM
      have q1 := st5.k.cell
      have q2 := st5.g.cell
      have q3 := st5.s.cell
      have q4 : ((k : Int) != stp) = false := by simp [hk]
      have zP := zero_box (w := W5) 3 (.int .i64 0)
      have cP := (Boxed.new W5 3 (.int .i64 0)).cell
      have fP := (Boxed.new W5 3 (.int .i64 0)).frozen
      obtain ⟨wP0, hwP0⟩ : ∃ wP0, W5.alloc (.cells #[(.int .i64 0)] 3) = wP0 := ⟨_, rfl⟩
      rw [hwP0] at zP cP fP
      obtain ⟨wP, hwP⟩ : ∃ wP, wP0.setCell ⟨W5.heap.size, 0, none⟩ (.int .i64 0) = wP := ⟨_, rfl⟩
      rw [hwP] at zP
      obtain ⟨nP, gP, sP0⟩ := zP
      have sP : Hid (wP.heap.size = W5.heap.size + 1) := sP0
      clear sP0
      have stP := st5.below gP
      have recP := rec5.below gP
      have q5 := stP.t.cell
      have HC2 : Hid (∀ _ : Unit, _) := fun _ => loop2 recP nP stP.c1 stP.c2 (by simp [nines]; omega)
      have HPP : Hid (_ ∧ _ ∧ _ ∧ _) := And.intro stP (And.intro recP (And.intro (sl_below gP s2) (gw5.trans (gP.mono gw5.size))))
      have HNL : Hid (∀ j, IsBox w.heap.size w1.heap.size wB.heap.size w3.heap.size wF.heap.size wH.heap.size (wH.heap.size + 1) wJ.heap.size wK.heap.size wL.heap.size j → ¬ j = W5.heap.size) := fun j hj e => by have := st5.lt j hj; omega
      have HNR : Hid (∀ j, Blk wA.heap.size vs5 j → ¬ j = W5.heap.size) := fun j hj e => by have := rec5.lt j hj; omega
      have HNU : Hid (∀ j, (Value.slice ua A.length uc).ownBlock = some j → ¬ j = W5.heap.size) := fun j hj e => by have := (d1 j (.inr hj)).2.2; omega
      have HW5 : Hid (w.heap.size ≤ W5.heap.size) := gw5.size
      clear stP recP nP gP st5 rec5 s2 d1 hB5 gw5
      go_wp2_with (fail)
      refine (HC2.out ()).mono ?_
      rintro e W6 ⟨rfl, l6, g6⟩
      clear HC2 q1 q2 q3 q4 q5 cP fP
      have st6 := HPP.out.1.grow g6 HNL.out
      have rec6 := HPP.out.2.1.grow g6 HNR.out
      have su6 := sl_grow g6 HPP.out.2.2.1 HNU.out
      have gw6 : Below w.heap.size w W6 := HPP.out.2.2.2.trans (g6.below (fun k hk => by subst hk; exact HW5.out) HPP.out.2.2.2.size)
      have q6 := st6.r.cell
      clear HPP g6
      go_wp2_with (fail)
      refine (tEvents_any _ vs5 (A ++ nines k) (by simp [nines]; omega) W6 rec6.opt).mono ?_
      rintro e w7 ⟨u2, rfl, o2, g7⟩
      have hN : (A ++ nines k).length = A.length + k := by simp [nines]
      obtain ⟨a2, c2, rfl⟩ := owns_len o2
      have sl2 := sl_of_owns o2
      have hcap : A.length ≤ c2 := by
        obtain ⟨_, _, _, e, h, _⟩ := sl2
        cases e
        omega
      have hbn : (beh (A ++ nines k) n).length ≤ 4000 := by unfold beh; rw [List.length_drop, hN]; omega
      have su7 := sl_below g7 su6
      have st7 := st6.below g7
      have l7 := bbelow l6 g7
      have q7 := st7.g.cell
      have q8 := l7.cell
      have HSL : Hid _ := sl2
      have HSU : Hid _ := su7
      have HPR : Hid (Sl w7 (.slice a2 A.length c2) 2 (evC A) A.length) := sl_pre sl2 rfl
      have HGW : Hid (Below w.heap.size w w7) := gw6.trans (g7.mono gw6.size)
      clear q6 st6 rec6 su6 gw6 o2 g7 su7 st7 l7 l6 sl2
      obtain ⟨N, hNN⟩ : ∃ N, (A ++ nines k).length = N := ⟨_, rfl⟩
      rw [hNN] at hN HSL ⊢
      have HN : Hid _ := hNN
      clear hNN
      obtain ⟨hw1, hw2, hN4⟩ := wrap_sum A.length k N hN lA hk2
      clear hN
      generalize hbn' : beh (A ++ nines k) n = bn at *
      have HBN : Hid _ := hbn'
      clear hbn'
      go_wp2_with (fail)
      try clear hmf
      try clear hen
      try clear hnf
      try clear hwA
      try clear hwB
      try clear hwC
      try clear hwD
      try clear hwE
      try clear hwF
      try clear hwK0
      try clear hwK
      try clear hwL0
      try clear hwL
      try clear hwM0
      try clear hwM
      try clear hwP0
      try clear hwP
      try clear gA
      try clear bA0
      try clear g1
      try clear oR
      try clear r1
      try clear g3
      try clear y7
      try clear kst
      try clear lw1
      try clear lwE
      try clear q6
      try clear hk
      try clear HsA
      try clear sB
      try clear sC
      try clear sD
      try clear sE
      try clear sF
      try clear HsH
      try clear sJ
      try clear sK
      try clear sL
      try clear sM
      try clear sP
      try clear HOU5
      try clear HNL
      try clear HNR
      try clear HNU
      try clear HW5
      try clear HWT
      try clear HA
      try clear HVB
      have ltG := World.block_lt_of_cell? w7 _ q7
      have ltL := World.block_lt_of_cell? w7 _ q8
      refine wp_region_held_drew (S := fun X => Below w7.heap.size w7 X) (by kernel_rfl) (Below.refl _ _).drew (fun hH => ?_)
      refine wpAnyH_take (i := 0) (v := (.slice a2 N c2)) rfl (by kernel_rfl) (by kernel_rfl) (by kernel_rfl) (fun _ _ _ h => h) (Or.inl ⟨by kernel_rfl, fun W hW => ?_⟩) hH ?_
      · go_simp
      try simp only [Act.put, List.setIfInBounds_toArray, List.set_cons_zero, List.set_cons_succ]
      refine wpAnyH_take (i := 1) (v := .int .i64 N) rfl (by kernel_rfl) (by kernel_rfl) (by kernel_rfl) (fun _ _ _ h => h) (Or.inl ⟨by kernel_rfl, fun W hW => ?_⟩) hH ?_
      · go_simp
      try simp only [Act.put, List.setIfInBounds_toArray, List.set_cons_zero, List.set_cons_succ]
      refine wpAnyH_take (i := 2) (v := (.slice ua A.length uc)) rfl (by kernel_rfl) (by kernel_rfl) (by kernel_rfl) (fun _ _ _ h => h) (Or.inl ⟨by kernel_rfl, fun W hW => ?_⟩) hH ?_
      · go_simp
      try simp only [Act.put, List.setIfInBounds_toArray, List.set_cons_zero, List.set_cons_succ]
      refine wpAnyH_take (i := 3) (v := .int .i64 A.length) rfl (by kernel_rfl) (by kernel_rfl) (by kernel_rfl) (fun _ _ _ h => h) (Or.inl ⟨by kernel_rfl, fun W hW => ?_⟩) hH ?_
      · go_simp
      try simp only [Act.put, List.setIfInBounds_toArray, List.set_cons_zero, List.set_cons_succ]
      refine wpAnyH_take (i := 4) (v := .int .i64 k) rfl (by kernel_rfl) (by kernel_rfl) (by kernel_rfl) (fun _ _ _ h => h) (Or.inl ⟨by kernel_rfl, fun W hW => ?_⟩) hH ?_
      · have hq := (hW.cell (p := ⟨wK.heap.size, 0, none⟩) ltG).trans q7; go_simp
      try simp only [Act.put, List.setIfInBounds_toArray, List.set_cons_zero, List.set_cons_succ]
      refine wpAnyH_take (i := 5) (v := .int .i64 N) rfl (by kernel_rfl) (by kernel_rfl) (by kernel_rfl) (fun _ _ _ h => h) (Or.inl ⟨by kernel_rfl, fun W hW => ?_⟩) hH ?_
      · (go_simp <;> first | rw [hw1] | rw [hw2] | simp [hw1, hw2])
      try simp only [Act.put, List.setIfInBounds_toArray, List.set_cons_zero, List.set_cons_succ]
      refine wpAnyH_take (i := 6) (v := .bool true) rfl (by kernel_rfl) (by kernel_rfl) (by kernel_rfl) (fun _ _ _ h => h) (Or.inl ⟨by kernel_rfl, fun W hW => ?_⟩) hH ?_
      · go_simp
      try simp only [Act.put, List.setIfInBounds_toArray, List.set_cons_zero, List.set_cons_succ]
      refine wpAnyH_take (i := 7) (v := .bool true) rfl (by kernel_rfl) (by kernel_rfl) (by kernel_rfl) (fun _ _ _ h => h) (Or.inl ⟨by kernel_rfl, fun W hW => ?_⟩) hH ?_
      · go_simp
      try simp only [Act.put, List.setIfInBounds_toArray, List.set_cons_zero, List.set_cons_succ]
      refine wpAnyH_take (i := 8) (v := .int .i64 bn.length) rfl (by kernel_rfl) (by kernel_rfl) (by kernel_rfl) (fun _ _ _ h => h) (Or.inl ⟨by kernel_rfl, fun W hW => ?_⟩) hH ?_
      · have hq := (hW.cell (p := ⟨W5.heap.size, 0, none⟩) ltL).trans q8; go_simp
      try simp only [Act.put, List.setIfInBounds_toArray, List.set_cons_zero, List.set_cons_succ]
      refine wpAnyH_take (i := 9) (v := (.slice a2 N c2)) rfl (by kernel_rfl) (by kernel_rfl) (by kernel_rfl) (fun _ _ _ h => h) (Or.inl ⟨by kernel_rfl, fun W hW => ?_⟩) hH ?_
      · go_simp
      try simp only [Act.put, List.setIfInBounds_toArray, List.set_cons_zero, List.set_cons_succ]
      refine wpAnyH_take (i := 10) (v := .int .i64 n) rfl (by kernel_rfl) (by kernel_rfl) (by kernel_rfl) (fun _ _ _ h => h) (Or.inl ⟨by kernel_rfl, fun W hW => ?_⟩) hH ?_
      · go_simp
      try simp only [Act.put, List.setIfInBounds_toArray, List.set_cons_zero, List.set_cons_succ]
      refine wpAnyH_ready (rs := [11]) (by kernel_rfl) (by simp) (AllReadyH.cons rfl (fun K' hK => ?_) AllReadyH.nil)
      go_simp
      refine (behind_any _ (A ++ nines k) n _ (by rw [HN.out]; exact sl_below hH HSL.out)).mono ?_
      rintro e w8 ⟨v8, rfl, hv8, hw8⟩
      obtain rfl := hw8.symm
      rw [HBN.out] at hv8
      obtain ⟨a8, c8, rfl⟩ := sl_len hv8
      clear hv8
      go_wp2_with fail
      refine hK.out _ _ hH (fun hH => ?_)
      clear hK K'
      try simp only [Act.put, List.setIfInBounds_toArray, List.set_cons_zero, List.set_cons_succ]
      refine wpAnyH_take (i := 12) (v := .int .i64 bn.length) rfl (by kernel_rfl) (by kernel_rfl) (by kernel_rfl) (fun _ _ _ h => h) (Or.inl ⟨by kernel_rfl, fun W hW => ?_⟩) hH ?_
      · go_simp
      try simp only [Act.put, List.setIfInBounds_toArray, List.set_cons_zero, List.set_cons_succ]
      refine wpAnyH_take (i := 13) (v := .bool true) rfl (by kernel_rfl) (by kernel_rfl) (by kernel_rfl) (fun _ _ _ h => h) (Or.inl ⟨by kernel_rfl, fun W hW => ?_⟩) hH ?_
      · go_simp
      try simp only [Act.put, List.setIfInBounds_toArray, List.set_cons_zero, List.set_cons_succ]
      refine wpAnyH_take (i := 14) (v := .bool true) rfl (by kernel_rfl) (by kernel_rfl) (by kernel_rfl) (fun _ _ _ h => h) (Or.inl ⟨by kernel_rfl, fun W hW => ?_⟩) hH ?_
      · go_simp
      try simp only [Act.put, List.setIfInBounds_toArray, List.set_cons_zero, List.set_cons_succ]
      refine wpAnyH_take (i := 15) (v := .bool true) rfl (by kernel_rfl) (by kernel_rfl) (by kernel_rfl) (fun _ _ _ h => h) (Or.inl ⟨by kernel_rfl, fun W hW => ?_⟩) hH ?_
      · go_simp
      try simp only [Act.put, List.setIfInBounds_toArray, List.set_cons_zero, List.set_cons_succ]
      refine wpAnyH_take (i := 16) (v := (.slice a2 N c2)) rfl (by kernel_rfl) (by kernel_rfl) (by kernel_rfl) (fun _ _ _ h => h) (Or.inl ⟨by kernel_rfl, fun W hW => ?_⟩) hH ?_
      · go_simp
      try simp only [Act.put, List.setIfInBounds_toArray, List.set_cons_zero, List.set_cons_succ]
      refine wpAnyH_take (i := 17) (v := (.slice ua A.length uc)) rfl (by kernel_rfl) (by kernel_rfl) (by kernel_rfl) (fun _ _ _ h => h) (Or.inl ⟨by kernel_rfl, fun W hW => ?_⟩) hH ?_
      · go_simp
      try simp only [Act.put, List.setIfInBounds_toArray, List.set_cons_zero, List.set_cons_succ]
      refine wpAnyH_take (i := 18) (v := .int .i64 A.length) rfl (by kernel_rfl) (by kernel_rfl) (by kernel_rfl) (fun _ _ _ h => h) (Or.inl ⟨by kernel_rfl, fun W hW => ?_⟩) hH ?_
      · go_simp
      try simp only [Act.put, List.setIfInBounds_toArray, List.set_cons_zero, List.set_cons_succ]
      refine wpAnyH_take (i := 19) (v := .slice a2 A.length c2) rfl (by kernel_rfl) (by kernel_rfl) (by kernel_rfl) (fun _ _ _ h => h) (Or.inl ⟨by kernel_rfl, fun W hW => ?_⟩) hH ?_
      · go_simp
      try simp only [Act.put, List.setIfInBounds_toArray, List.set_cons_zero, List.set_cons_succ]
      refine wpAnyH_take (i := 20) (v := (.slice ua A.length uc)) rfl (by kernel_rfl) (by kernel_rfl) (by kernel_rfl) (fun _ _ _ h => h) (Or.inl ⟨by kernel_rfl, fun W hW => ?_⟩) hH ?_
      · go_simp
      try simp only [Act.put, List.setIfInBounds_toArray, List.set_cons_zero, List.set_cons_succ]
      refine wpAnyH_ready (rs := [21]) (by kernel_rfl) (by simp) (AllReadyH.cons rfl (fun K' hK => ?_) AllReadyH.nil)
      go_simp
      refine (events_any (.slice a2 A.length c2) _ A A _ (sl_below hH HPR.out) (sl_below hH HSU.out) (by omega)).mono ?_
      rintro e w9 ⟨rfl, m9, rfl⟩
      rw [beq_self_eq_true]
      go_wp2_with fail
      refine hK.out _ _ (dn _) (fun hH => ?_)
      clear hK K'
      try simp only [Act.put, List.setIfInBounds_toArray, List.set_cons_zero, List.set_cons_succ]
      refine wpAnyH_take (i := 22) (v := .bool true) rfl (by kernel_rfl) (by kernel_rfl) (by kernel_rfl) (fun _ _ _ h => h) (Or.inl ⟨by kernel_rfl, fun W hW => ?_⟩) hH ?_
      · go_simp
      try simp only [Act.put, List.setIfInBounds_toArray, List.set_cons_zero, List.set_cons_succ]
      refine wpAnyH_take (i := 23) (v := .bool true) rfl (by kernel_rfl) (by kernel_rfl) (by kernel_rfl) (fun _ _ _ h => h) (Or.inl ⟨by kernel_rfl, fun W hW => ?_⟩) hH ?_
      · go_simp
      try simp only [Act.put, List.setIfInBounds_toArray, List.set_cons_zero, List.set_cons_succ]
      refine wpAnyH_ready (rs := [24]) (by kernel_rfl) (by simp) (AllReadyH.cons rfl (fun K' hK => ?_) AllReadyH.nil)
      go_simp
      refine (known_any _).mono ?_
      rintro e w10 ⟨rfl, B10⟩
      go_wp2_with fail
      refine hK.out _ _ (hH.trans (B10.mono hH.size)) (fun hH => ?_)
      clear hK K'
      try simp only [Act.put, List.setIfInBounds_toArray, List.set_cons_zero, List.set_cons_succ]
      refine wpAnyH_take (i := 25) (v := .bool true) rfl (by kernel_rfl) (by kernel_rfl) (by kernel_rfl) (fun _ _ _ h => h) (Or.inl ⟨by kernel_rfl, fun W hW => ?_⟩) hH ?_
      · go_simp
      try simp only [Act.put, List.setIfInBounds_toArray, List.set_cons_zero, List.set_cons_succ]
      refine wpAnyH_take (i := 26) (v := .bool true) rfl (by kernel_rfl) (by kernel_rfl) (by kernel_rfl) (fun _ _ _ h => h) (Or.inl ⟨by kernel_rfl, fun W hW => ?_⟩) hH ?_
      · go_simp
      try simp only [Act.put, List.setIfInBounds_toArray, List.set_cons_zero, List.set_cons_succ]
      refine wpAnyH_done (by kernel_rfl) ?_ _
      try simp only [Act.put, List.getElem_toArray, List.getElem_cons_succ, List.getElem_cons_zero, List.getElem?_toArray, List.getElem?_cons_succ, List.getElem?_cons_zero, List.setIfInBounds_toArray, List.set_cons_zero, List.set_cons_succ]
      go_wp2
      go_ret
      exact ⟨rfl, HGW.out.trans (hH.mono HGW.out.size)⟩

set_option maxRecDepth 100000 in
theorem since_lifted (os : Os) (started : os.Started) (H : Type) (enc : TypeId × Value → H) :
    ReturnsInHanded {} Try.checked os 8 .any (Rows.traceSinceSpec.pre6 enc Try.prog Try.f8 Rows.traceSinceRow.domain false) (Rows.traceSinceSpec.post enc Try.prog Try.f8 false true false false) := by
  refine returnsInHanded_of_change_sized (C := Try.checked) own started (by kernel_rfl) Try.func8
    (ChangeSpec.witness6 (enc := enc) (C := Try.checked) false ⟨#[], #[.slice none 0 0, .int .i64 0, .int .i64 0], []⟩ 8 (by kernel_rfl) (by kernel_rfl) (by kernel_rfl) (by kernel_rfl)) ?_
  intro W base args ds gs before hval0 hW hcnd hsz0 _
  clear hsz0
  have hval : ∀ (j : Nat) t v, Try.f8.params[j]? = some t → args[j]? = some v → Value.okWide Try.prog W .any base t v := hval0
  have hW' := hW
  obtain ⟨p, q, hA0, hV, rfl, hfz, hnd⟩ := hW
  have hA : DataW.TrodAll enc Try.prog W 0 (fun _ => true) true Try.f8.params.toList args.toList ds p := hA0
  rw [Try.params8] at hA hval
  have hAll := fun W' (hb : Below W.heap.size W W') => trodAll_below laidOut hb _ _ _ _ (by kernel_rfl) hA
  obtain ⟨v0, vs0, d0, ds0, p0, q0, hargs, rfl, rfl, h0, r0⟩ := trodAll_cons hA
  obtain ⟨v1, vs1, d1, ds1, p1, q1, rfl, rfl, rfl, h1, r1⟩ := trodAll_cons r0
  obtain ⟨v2, vs2, d2, ds2, p2, q2, rfl, rfl, rfl, h2, r2⟩ := trodAll_cons r1
  obtain ⟨rfl, rfl, rfl⟩ := trodAll_nil r2
  obtain rfl : args = #[v0, v1, v2] := by cases args; simp_all
  obtain ⟨rfl, rfl⟩ := trodVars_none hV
  obtain ⟨a0, len0, cap0, rfl⟩ := okWide_slice Try.underlying22 (hval 0 22 v0 rfl rfl)
  obtain ⟨z0, rfl, w0⟩ := open_script h0
  obtain ⟨a1, rfl, rfl, rfl, w1⟩ := open_int Try.underlying3 (hval 1 3 v1 rfl rfl) h1
  obtain ⟨a2, rfl, rfl, rfl, w2⟩ := open_int Try.underlying3 (hval 2 3 v2 rfl rfl) h2
  clear hA0 hval0
  refine (since_walk _ z0 a1 w1 a2 w2 W w0).mono fun e W' ⟨he, bel⟩ => ?_
  subst he
  exact ⟨_, rfl, _, _, _, [], _, [], hW', trodAll_mk1 (shut_bool Try.underlying4 _), hAll W' bel, rfl, bel.frame _, fun h => by cases h⟩

theorem since_proved : Rows.TraceSinceSaid :=
  OpenClaim.holds_of_wide 8 Try.f8 rfl rfl rfl rfl rfl rfl rfl ⟨rfl, rfl, rfl, rfl, rfl⟩ rfl rfl rfl rfl rfl (by kernel_rfl) Try.func8 (by kernel_rfl)
    (of_decide_eq_true (by kernel_rfl)) (by unfold Func.isWrapper; first | (rw [if_pos (by decide +kernel)]; kernel_rfl) | (rw [if_neg (by decide +kernel)]; exact ⟨rfl, rfl⟩))
    (fun os started H enc _ => since_lifted os started H enc)
end Go.Proofs.Ytigapdfefapdgaa
