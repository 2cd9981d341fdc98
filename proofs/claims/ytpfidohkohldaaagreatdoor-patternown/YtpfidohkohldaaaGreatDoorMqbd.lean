import Derived.Test.YtpfidohkohldaaaGreatDoorMqbc
namespace Go.Proofs.YtpfidohkohldaaaGreatDoor
set_option linter.unusedSimpArgs false
set_option linter.unusedVariables false
open Go.ChangeShapes Go.WideShapes Go.ChangeAt Go.RowKit Go.Pin Go.Pat Go.Deep
abbrev zGr : Array Value := #[.slice none 0 0, .slice none 0 0]
/-- grow's state -/
structure GW (q lo hi : Nat) (w0 : World) (nm : ByteArray) (v0 v1 vl u : Value) (fs G : List Lv) (nw : Nat → List Value) (q3 : Nat) (wD : World) (vT vL : Value) (Y : List Value) (w : World) : Prop where
  mv : MV lo 3 1 q3 wD (UF G) nw 22 vT Y w
  bD : Below lo w0 wD
  kp : ∀ k, hi ≤ k → k < q → w.heap[k]? = w0.heap[k]?
  b0 : w.heap[q]? = some (.cells #[.string nm, v0, v1, vl] 26)
  b1 : w.heap[q + 1]? = some (.cells zGr 38)
  b2 : w.heap[q + 2]? = some (.cells #[vT, vL] 38)
  ro : w.ownsRow (q + 3) 22 1 u G.length (G.map (·.2.1))
  ln : OA 43 2 vl fs.length (lvc fs) w
  qq : q + 3 ≤ q3
  hl : ∀ g, vl.ownBlock = some g → lo ≤ g ∧ g < hi ∧ g ∉ obs G
  hu : ∀ k ∈ obs G, lo ≤ k ∧ k < hi
  hq : hi ≤ q ∧ lo ≤ hi
  ur : ∀ g, u.ownBlock = some g → g < q3
section
variable {q lo hi : Nat} {w0 : World} {nm : ByteArray} {v0 v1 vl u : Value} {fs G : List Lv} {nw : Nat → List Value} {q3 : Nat} {wD : World} {vT vL : Value} {Y : List Value} {w y : World}
theorem GW.lt (h : GW q lo hi w0 nm v0 v1 vl u fs G nw q3 wD vT vL Y w) : q + 3 ≤ w.heap.size := Nat.le_trans h.qq h.mv.sz
theorem GW.mid (h : GW q lo hi w0 nm v0 v1 vl u fs G nw q3 wD vT vL Y w) {i : Nat} {f : Lv} (hf : G[i]? = some f) (hY : Y.length = i) {l : Value} {j : Nat} {nx : List Value} (hl : LR lo 3 1 w.heap.size w f.2.1 f.2.2.length (f.2.2.map (Value.int .i64)) l j nx y) : GW q lo hi w0 nm v0 v1 vl u fs G nw q3 wD vT vL Y y := by
  have hq := h.hq
  have hlt := h.lt
  have hfm := List.mem_of_getElem? hf
  have hk : ∀ g, g < w.heap.size → (g ∉ obs G) → y.heap[g]? = w.heap[g]? := fun g hg hn => hl.st g hg (by omega) (fun e => hn (obs_mem hfm e))
  have hg2 : ∀ g, hi ≤ g → g < w.heap.size → y.heap[g]? = w.heap[g]? := fun g h1 h2 => hk g h2 (fun e => by have := (h.hu g e).2; omega)
  refine ⟨h.mv.mid (UF_at hf) hY hl, h.bD, fun k h1 h2 => (hg2 k h1 (by omega)).trans (h.kp k h1 h2), (hg2 _ (by omega) (by omega)).trans h.b0, (hg2 _ (by omega) (by omega)).trans h.b1, (hg2 _ (by omega) (by omega)).trans h.b2, own_keep h.ro (fun g hg => hg2 g (by have := (h.ro.lt g hg).1; omega) (h.ro.lt g hg).2), h.ln.keep (fun g hg => hk g (h.ln.lt hg) (h.hl g hg).2.2), h.qq, h.hl, h.hu, h.hq, h.ur⟩
/-- the box of what goes on is written -/
theorem GW.set0 (h : GW q lo hi w0 nm v0 v1 vl u fs G nw q3 wD vT vL Y w) {v' l : Value} {w' : World} (hmv : MV lo 3 1 q3 wD (UF G) nw 22 v' (Y ++ [l]) w') (hk : ∀ g, g < w.heap.size → vT.ownBlock ≠ some g → w'.heap[g]? = w.heap[g]?) (hYG : Y.length < G.length) : GW q lo hi w0 nm v0 v1 vl u fs G nw q3 wD v' vL (Y ++ [l]) (w'.setCell ⟨q + 2, 0, none⟩ v') := by
  have hq := h.hq
  have hlt := h.lt
  have hqq := h.qq
  have hk2 : ∀ g, g < q3 → w'.heap[g]? = w.heap[g]? := fun g hg => hk g (by have := h.mv.sz; omega) (fun e => by have := (h.mv.l16.lt g e).1; omega)
  have ho : ∀ b, b ≠ q + 2 → (w'.setCell ⟨q + 2, 0, none⟩ v').heap[b]? = w'.heap[b]? := fun b hne => heap_setCell_other _ _ _ _ hne
  have hk3 : ∀ g, g < q3 → g ≠ q + 2 → (w'.setCell ⟨q + 2, 0, none⟩ v').heap[g]? = w.heap[g]? := fun g h1 h2 => (ho g h2).trans (hk2 g h1)
  have hbw : Below lo w' (w'.setCell ⟨q + 2, 0, none⟩ v') := (Below.refl _ _).setCell (p := ⟨q + 2, 0, none⟩) (by show lo ≤ q + 2; omega) _
  refine ⟨hmv.keep hbw (fun g _ hg => ho g ?_) (by simp [UF]; omega), h.bD, fun k h1 h2 => (hk3 k (by omega) (by omega)).trans (h.kp k h1 h2), (hk3 _ (by omega) (by omega)).trans h.b0, (hk3 _ (by omega) (by omega)).trans h.b1, ?_, own_keep h.ro (fun g hg => hk3 g (h.ur g hg) (by have := (h.ro.lt g hg).1; omega)), h.ln.keep (fun g hg => hk3 g (by have := h.hl g hg; omega) (by have := h.hl g hg; omega)), h.qq, h.hl, h.hu, h.hq, h.ur⟩
  · rcases hg with ⟨x, hx, hg⟩ | hg
    · obtain ⟨f, hf, rfl⟩ := List.mem_map.1 hx
      have := h.hu g (obs_mem hf hg)
      omega
    · omega
  · exact heap_setCell_same w' _ _ _ _ _ ((hk2 _ (by omega)).trans h.b2)
theorem GW.set1 (h : GW q lo hi w0 nm v0 v1 vl u fs G nw q3 wD vT vL Y w) (hYG : Y.length ≤ G.length) (v' : Value) : GW q lo hi w0 nm v0 v1 vl u fs G nw q3 wD vT v' Y (w.setCell ⟨q + 2, 1, none⟩ v') := by
  have hq := h.hq
  have hlt := h.lt
  have hqq := h.qq
  have ho : ∀ b, b ≠ q + 2 → (w.setCell ⟨q + 2, 1, none⟩ v').heap[b]? = w.heap[b]? := fun b hne => heap_setCell_other _ _ _ _ hne
  have hbw : Below lo w (w.setCell ⟨q + 2, 1, none⟩ v') := (Below.refl _ _).setCell (p := ⟨q + 2, 1, none⟩) (by show lo ≤ q + 2; omega) _
  refine ⟨h.mv.keep hbw (fun g _ hg => ho g ?_) (by simp [UF]; omega), h.bD, fun k h1 h2 => (ho k (by omega)).trans (h.kp k h1 h2), (ho _ (by omega)).trans h.b0, (ho _ (by omega)).trans h.b1, heap_setCell_same w _ _ _ _ _ h.b2, own_keep h.ro (fun g hg => ho g (by have := (h.ro.lt g hg).1; omega)), h.ln.keep (fun g hg => ho g (by have := h.hl g hg; omega)), h.qq, h.hl, h.hu, h.hq, h.ur⟩
  rcases hg with ⟨x, hx, hg⟩ | hg
  · obtain ⟨f, hf, rfl⟩ := List.mem_map.1 hx
    have := h.hu g (obs_mem hf hg)
    omega
  · omega
theorem GW.at {a : Option Addr} {n c : Nat} (h : GW q lo hi w0 nm v0 v1 vl (.slice a n c) fs G nw q3 wD vT vL Y w) {i : Nat} {f : Lv} (hf : G[i]? = some f) : n = G.length ∧ ∃ g, a = some ⟨g, 0, none⟩ ∧ w.cell? ⟨g, i, none⟩ = some f.2.1 := by
  obtain ⟨e, hc⟩ := own_cell h.ro
  obtain ⟨g, ea, _, h1⟩ := hc i f.2.1 (by rw [List.getElem?_map, hf]; rfl)
  exact ⟨e, g, ea, h1⟩
end
theorem ipG (a b : Value) : (Tryz.prog.info? 38).map (·.size) = some (#[a, b] : Array Value).size := by kernel_rfl
/-- what grow answers: what goes on from a pattern's lists -/
structure GR (lo hi lo2 hi2 : Nat) (v0 v1 vl : Value) (p : Pt) (fs : List Lv) (mk : Int) (vT vL : Value) (Y : List Value) (w : World) : Prop where
  ow : OwI lo hi v0 v1 vl p fs w
  tk : w.ownsRow lo2 22 1 vT Y.length Y
  yl : Y.length = fs.length + 2
  ty : ∀ (t : Nat) (f : Lv) (y : Value), (als v0 v1 p fs)[t]? = some f → Y[t]? = some y → OA 3 1 y (f.2.2.length + 40) (f.2.2.map (Value.int .i64) ++ rp 40 [.int .i64 (mk + (t : Int))]) w ∧ ∀ g, y.ownBlock = some g → (lo ≤ g ∧ g < hi) ∨ (lo2 ≤ g ∧ g < hi2)
  ln : OA 43 2 vL (fs.length + 40) (lvc fs ++ rp 40 [.int .i64 mk, .slice none 0 0]) w
  lb : ∀ g, vL.ownBlock = some g → (lo ≤ g ∧ g < hi) ∨ (lo2 ≤ g ∧ g < hi2)
  tb : ∀ g, vT.ownBlock = some g → g < hi2
  h2 : lo2 ≤ hi2 ∧ hi2 ≤ w.heap.size
theorem GR.keep {lo hi lo2 hi2 : Nat} {v0 v1 vl : Value} {p : Pt} {fs : List Lv} {mk : Int} {vT vL : Value} {Y : List Value} {w w' : World} (h : GR lo hi lo2 hi2 v0 v1 vl p fs mk vT vL Y w) (hk : ∀ k, (lo ≤ k ∧ k < hi) ∨ (lo2 ≤ k ∧ k < hi2) → w'.heap[k]? = w.heap[k]?) (hz : w.heap.size ≤ w'.heap.size) : GR lo hi lo2 hi2 v0 v1 vl p fs mk vT vL Y w' :=
  ⟨h.ow.keep (fun k h1 h2 => hk k (.inl ⟨h1, h2⟩)) hz, own_keep h.tk (fun g hg => hk g (.inr ⟨(h.tk.lt g hg).1, h.tb g hg⟩)), h.yl, fun t f y hf hy => ⟨(h.ty t f y hf hy).1.keep (fun g hg => hk g ((h.ty t f y hf hy).2 g hg)), (h.ty t f y hf hy).2⟩, h.ln.keep (fun g hg => hk g (h.lb g hg)), h.lb, h.tb, h.h2.1, Nat.le_trans h.h2.2 hz⟩
theorem and_imp_ex {α : Type} {P : α → Prop} {Q : Prop} {Y : α} (h : P Y ∧ Q) : (∃ x, P x) ∧ Q := ⟨⟨Y, h.1⟩, h.2⟩
theorem grow_end {q lo hi : Nat} {w : World} {nm : ByteArray} {v0 v1 vl u : Value} {p : Pt} {fs G : List Lv} {nw : Nat → List Value} {q3 : Nat} {wD : World} {vT vL vL' : Value} {Y : List Value} {wx wr W9 : World} {mk : Int}
    (hO : OwQ lo v0 v1 vl p fs w) (hG : als v0 v1 p fs = G) (hh : ∀ k ∈ obs G, k < hi) (hvl : ∀ g, vl.ownBlock = some g → g < hi) (hS : GW q lo hi w nm v0 v1 vl u fs G nw q3 wD vT vL' Y wx) (hY : Y.length = fs.length + 2) (hnw : ∀ t : Nat, nw t = rp 40 [.int .i64 (mk + (t : Int))])
    (hl : LR lo 43 2 (q + 2) wx vl fs.length (lvc fs) vL 40 (rp 40 [.int .i64 mk, .slice none 0 0]) wr) (hmv : MV lo 3 1 q3 wD (UF G) nw 22 vT Y wr) (hkp : ∀ k, hi ≤ k → k < q → wr.heap[k]? = w.heap[k]?) (hbw : Below lo wr W9) (hot : ∀ b, b ≠ q + 1 → W9.heap[b]? = wr.heap[b]?) (hwq : w.heap.size = q) :
    GR lo hi q W9.heap.size v0 v1 vl p fs mk vT vL Y W9 ∧ Ch lo hi w W9 := by
  subst hG
  have hq := hS.hq
  have hqq := hS.qq
  have hsz := hS.lt
  have hmv9 : MV lo 3 1 q3 wD (UF (als v0 v1 p fs)) nw 22 vT Y W9 := hmv.keep hbw (fun g _ hg => hot g (by
    rcases hg with ⟨x, hx, hg⟩ | hg
    · obtain ⟨f, hf, rfl⟩ := List.mem_map.1 hx
      have := hS.hu g (obs_mem hf hg); omega
    · omega)) (by rw [hY]; simp [UF, als])
  have hln : ∀ g, vl.ownBlock = some g → W9.heap[g]? = wr.heap[g]? := fun g hg => hot g (by have := hS.hl g hg; omega)
  have hlL : ∀ g, vL.ownBlock = some g → (lo ≤ g ∧ g < hi) ∨ (q + 3 ≤ g ∧ g < wr.heap.size) := fun g hg => by
    rcases hl.lb (Nat.le_refl _) g hg with h1 | h1
    · exact .inl ⟨(hS.hl g h1).1, (hS.hl g h1).2.1⟩
    · exact .inr ⟨by omega, hl.hl.lt hg⟩
  have hz9 := hbw.size
  refine ⟨⟨⟨⟨hO.1, hl.hu.keep hln, hO.2.2.1, ⟨fun f hf => ?_, hO.2.2.2.nd⟩⟩, hh, hvl, hq.2, by have := hl.bl.size; omega⟩, own_dn hmv9.l16 (by omega), hY, fun t f y hf hy => ?_, hl.hl.keep (fun g hg => hot g (by rcases hlL g hg with h | h <;> omega)), fun g hg => ?_, fun g hg => (hmv9.l16.lt g hg).2, by have := hl.bl.size; omega, Nat.le_refl _⟩, hS.bD.trans hmv9.bl, fun k h1 h2 => (hot k ?_).trans (hkp k h1 ?_)⟩
  · obtain ⟨t, ht⟩ := List.getElem?_of_mem hf
    exact own_of_oa (hO.2.2.2.own f hf) (hmv9.us t _ (UF_at ht))
  · obtain ⟨h1, h2⟩ := hmv9.ys t _ y (UF_at hf) hy
    rw [hnw] at h1
    refine ⟨h1, fun g hg => ?_⟩
    rcases h2 g hg with h3 | h3
    · exact .inl (hS.hu g (obs_mem (List.mem_of_getElem? hf) h3))
    · exact .inr ⟨by omega, h1.lt hg⟩
  · rcases hlL g hg with h | h
    · exact .inl h
    · exact .inr ⟨by omega, by omega⟩
  · omega
  · omega
set_option maxRecDepth 100000 in
set_option maxHeartbeats 8000000 in
theorem grow_any {w : World} {lo hi : Nat} {v0 v1 vl : Value} {p : Pt} {fs : List Lv} {mk : Int} (hI : OwI lo hi v0 v1 vl p fs w) (hn : fs.length ≤ 2000) (hb : ∀ f ∈ als v0 v1 p fs, f.2.2.length ≤ 1000000) (hm : 0 ≤ mk ∧ mk ≤ 1000000) :
    Calls Tryz.prog 10 #[.agg #[.string p.nm, v0, v1, vl], .int .i64 mk] w fun e w' => ∃ vT vL, e = .returned (.agg #[vT, vL]) ∧ (∃ Y, GR lo hi w.heap.size w'.heap.size v0 v1 vl p fs mk vT vL Y w') ∧ Ch lo hi w w' := by
  obtain ⟨h, hh, hvl, hz⟩ := hI
  replace hz := And.intro hz.2 hz.1
  have CLs := fun Y (hY : Below w.heap.size w Y) => lists_any (h.below hY) hn
  obtain ⟨⟨a0, c0, rfl⟩, ⟨a1, c1, rfl⟩, ⟨al, cl, rfl⟩, hfs⟩ := h.sl
  have hst := pb_start w p.nm (.slice a0 p.b0.length c0) (.slice a1 p.b1.length c1) (.slice al fs.length cl)
  have hO := h
  obtain ⟨G, hG⟩ : ∃ G, als (.slice a0 p.b0.length c0) (.slice a1 p.b1.length c1) p fs = G := ⟨_, rfl⟩
  have hGl : G.length = fs.length + 2 := by rw [← hG]; simp [als]
  rw [hG] at hh hb
  have hsl : ∀ f ∈ G, ∃ a c, f.2.1 = .slice a f.2.2.length c := fun f hf => by
    rw [← hG] at hf
    exact own_slice' (h.2.2.2.own f hf)
  obtain ⟨q, hq⟩ : ∃ q, w.heap.size = q := ⟨_, rfl⟩
  obtain ⟨n0, hn0⟩ : ∃ n0, p.b0.length = n0 := ⟨_, rfl⟩
  obtain ⟨n1, hn1⟩ : ∃ n1, p.b1.length = n1 := ⟨_, rfl⟩
  obtain ⟨L, hL⟩ : ∃ L, fs.length = L := ⟨_, rfl⟩
  obtain ⟨nm, hnm⟩ : ∃ nm, p.nm = nm := ⟨_, rfl⟩
  simp only [hq, hn0, hn1, hL, hnm] at hst CLs hn hz hO hvl hGl hG ⊢
  rw [hG] at CLs
  obtain ⟨W1, hW1⟩ : ∃ W1, w.alloc (.cells #[.string nm, .slice a0 n0 c0, .slice a1 n1 c1, .slice al L cl] 26) = W1 := ⟨_, rfl⟩
  rw [hW1] at hst
  have HP : Hid (PB q w nm (.slice a0 n0 c0) (.slice a1 n1 c1) (.slice al L cl) W1) := hst
  have e1 : W1.heap.size = q + 1 := by rw [← hW1, size_alloc, hq]
  have hb2 : Below W1.heap.size W1 ((W1.alloc (.cells zGr 38)).alloc (.cells zGr 38)) := ((Below.refl _ _).alloc (Nat.le_refl _) _).alloc (by rw [size_alloc]; omega) _
  have r1 : ((W1.alloc (.cells zGr 38)).alloc (.cells zGr 38)).heap[q + 1]? = some (.cells zGr 38) := by
    rw [(((Below.refl _ (W1.alloc (.cells zGr 38))).alloc (Nat.le_refl _) (.cells zGr 38)).block (q + 1) (by rw [size_alloc]; omega)), ← e1]
    exact heap_alloc_new _ _
  have r2 : ((W1.alloc (.cells zGr 38)).alloc (.cells zGr 38)).heap[q + 2]? = some (.cells zGr 38) := by
    have := heap_alloc_new (W1.alloc (.cells zGr 38)) (.cells zGr 38)
    rw [size_alloc, e1] at this
    exact this
  have e3 : ((W1.alloc (.cells zGr 38)).alloc (.cells zGr 38)).heap.size = q + 3 := by rw [size_alloc, size_alloc, e1]
  obtain ⟨W3, hW3⟩ : ∃ W3, (W1.alloc (.cells zGr 38)).alloc (.cells zGr 38) = W3 := ⟨_, rfl⟩
  rw [hW3] at hb2 r1 r2 e3
  have hp3 := hst.below hb2
  have HP3 : Hid (PB q w nm (.slice a0 n0 c0) (.slice a1 n1 c1) (.slice al L cl) W3 ∧ W3.heap[q + 1]? = some (.cells zGr 38) ∧ W3.heap[q + 2]? = some (.cells zGr 38) ∧ W3.heap.size = q + 3) := ⟨hp3, r1, r2, e3⟩
  have HO : Hid (∀ Y, Below q w Y → OwQ lo (.slice a0 n0 c0) (.slice a1 n1 c1) (.slice al L cl) p fs Y) := fun Y hY => hO.below (by rw [hq]; exact hY)
  have HOQ : Hid (OwQ lo (.slice a0 n0 c0) (.slice a1 n1 c1) (.slice al L cl) p fs w ∧ w.heap.size = q) := ⟨hO, hq⟩
  have HG : Hid (als (.slice a0 n0 c0) (.slice a1 n1 c1) p fs = G ∧ G.length = L + 2 ∧ L ≤ 2000 ∧ fs.length = L) := ⟨hG, hGl, hn, hL⟩
  have HH : Hid ((∀ k ∈ obs G, k < hi) ∧ (∀ g, (Value.slice al L cl).ownBlock = some g → g < hi) ∧ hi ≤ q ∧ lo ≤ hi) := ⟨hh, hvl, hz⟩
  have HBD : Hid (∀ f ∈ G, f.2.2.length ≤ 1000000) := hb
  have HSL : Hid (∀ f ∈ G, ∃ a c, f.2.1 = .slice a f.2.2.length c) := hsl
  have HMK : Hid (0 ≤ mk ∧ mk ≤ 1000000) := hm
  have CL1 := CLs W3 hp3.old
  have k0 := hp3.c0
  have k1 := hp3.c1
  have k2 := hp3.c2
  have k3 := hp3.c3
  simp only [e3] at CL1
  clear hst CLs hO hG hGl hh hvl hz hn hb hm hfs hsl h r1 r2 e3 hp3 hb2 HP hn0 hn1 hL hnm
  go_enter Tryz.func10, Tryz.ntmps10
  go_upto_region 2 with (fail)
  try simp only [e1]
  try rw [hW3]
  clear hW3 hW1 e1 hq
  go_upto_region 4 with (go_at_call 21; refine Calls.mono CL1 ?_; clear CL1; rintro e w2 ⟨u, rfl, ho, hb⟩; have HP2 : Hid (PB q w nm (.slice a0 n0 c0) (.slice a1 n1 c1) (.slice al L cl) w2 ∧ w2.heap[q + 1]? = some (.cells zGr 38) ∧ w2.heap[q + 2]? = some (.cells zGr 38) ∧ q + 3 ≤ w2.heap.size) := (by have h3 := HP3.out; rw [← h3.2.2.2] at hb; exact ⟨h3.1.below hb, (hb.block _ (by omega)).trans h3.2.1, (hb.block _ (by omega)).trans h3.2.2.1, by have := hb.size; omega⟩); have HO2 : Hid (w2.ownsRow (q + 3) 22 1 u (L + 2) (G.map (·.2.1))) := ho; clear ho hb k0 k1 k2 k3)
  obtain ⟨au, cu, rfl⟩ := own_slice' HO2.out
  obtain ⟨N, hN⟩ : ∃ N, L + 2 = N := ⟨_, rfl⟩
  have HN : Hid (G.length = N ∧ N ≤ 2002) := ⟨by rw [HG.out.2.1, hN], by have := HG.out; omega⟩
  have HF2 : Hid (GW q lo hi w nm (.slice a0 n0 c0) (.slice a1 n1 c1) (.slice al L cl) (.slice au N cu) fs G (fun t : Nat => rp 40 [.int .i64 (mk + (t : Int))]) w2.heap.size w2 (.slice none 0 0) (.slice none 0 0) [] w2) := by
    have hO2 := HO.out w2 HP2.out.1.old
    obtain ⟨o1, o2, o3, o4⟩ := hO2
    rw [HG.out.1] at o4
    have hr := HO2.out
    rw [hN] at hr
    have hH := HH.out
    have hz := HP2.out.2.2.2
    refine ⟨MV.start (by omega) (fun x hx => ?_) (fun s t x x' g hs ht hg hg' => ?_), HP2.out.1.old.mono (by omega), fun k _ hk => HP2.out.1.old.block k hk, HP2.out.1.row, HP2.out.2.1, HP2.out.2.2.1, by rw [HN.out.1]; exact hr, o2, hz, fun g hg => ⟨o3 g hg, hH.2.1 g hg, fun hm => ?_⟩, fun k hk => ⟨(o4.lt k hk).1, hH.1 k hk⟩, hH.2.2, fun g hg => (hr.lt g hg).2⟩
    · obtain ⟨f, hf, rfl⟩ := List.mem_map.1 hx
      exact ⟨own_oa (o4.own f hf), fun g hg => ((o4.own f hf).lt g hg).1⟩
    · rw [UF, List.getElem?_map] at hs ht
      obtain ⟨f, hf, rfl⟩ := Option.map_eq_some_iff.1 hs
      obtain ⟨f', hf', rfl⟩ := Option.map_eq_some_iff.1 ht
      exact obs_inj (List.nodup_append.1 o4.nd).2.1 hf hf' hg hg'
    · exact (List.nodup_append.1 o4.nd).2.2 g (by rw [hg]; simp) g hm rfl
  obtain ⟨q3, hq3⟩ : ∃ q3, w2.heap.size = q3 := ⟨_, rfl⟩
  rw [hq3] at HF2
  simp only [hN]
  clear hN HP2 HO2 HP3 hq3 HO
  obtain ⟨nw, hnw⟩ : ∃ nw : Nat → List Value, (fun t : Nat => rp 40 [.int .i64 (mk + (t : Int))]) = nw := ⟨_, rfl⟩
  rw [hnw] at HF2
  have HNW : Hid (∀ t : Nat, nw t = rp 40 [.int .i64 (mk + (t : Int))]) := fun t => by rw [← hnw]
  clear hnw
  obtain ⟨wD, hwD⟩ : ∃ wD, w2 = wD := ⟨_, rfl⟩
  have HF3 : Hid (GW q lo hi w nm (.slice a0 n0 c0) (.slice a1 n1 c1) (.slice al L cl) (.slice au N cu) fs G nw q3 wD (.slice none 0 0) (.slice none 0 0) [] w2) := by rw [← hwD]; exact HF2.out
  clear HF2 hwD
  go_loopw [7] (fun v7 wr => ∃ (i : Nat) (aT : Option Addr) (cT : Nat) (Y : List Value), i ≤ N ∧ v7 = .int .i64 i ∧ Y.length = i ∧ GW q lo hi w nm (.slice a0 n0 c0) (.slice a1 n1 c1) (.slice al L cl) (.slice au N cu) fs G nw q3 wD (.slice aT i cT) (.slice none 0 0) Y wr) (fun v _ => N - (intOf v).toNat)
  case atStart => exact ⟨0, none, 0, [], Nat.zero_le _, rfl, rfl, HF3.out⟩
  case round =>
    clear HF3
    obtain ⟨i, aT, cT, Y, hi', rfl, hYl, hf⟩ := hrel
    have HFi : Hid (GW q lo hi w nm (.slice a0 n0 c0) (.slice a1 n1 c1) (.slice al L cl) (.slice au N cu) fs G nw q3 wD (.slice aT i cT) (.slice none 0 0) Y wr ∧ Y.length = i) := ⟨hf, hYl⟩
    by_cases hlt : i < N
    · have b1 : (i : Int) < (N : Int) := by omega
      have bi : (0 : Int) ≤ (i : Int) := by omega
      have hil : i < G.length := by rw [HN.out.1]; exact hlt
      obtain ⟨ax, cx, hx⟩ := HSL.out (G.getD i dLv) (by simp [List.getD, hil])
      have hbd := HBD.out (G.getD i dLv) (by simp [List.getD, hil])
      have hgi : G[i]? = some (G.getD i dLv) := by simp [List.getD, hil]
      rcases hfx : G.getD i dLv with ⟨ff, fv, C⟩
      rw [hfx] at hx hbd hgi
      simp only at hx hbd
      subst hx
      obtain ⟨-, gu, rfl, x1⟩ := hf.at hgi
      have hlr := hf.mv.lr (UF_at hgi)
      obtain ⟨m, hm⟩ : ∃ m, C.length = m := ⟨_, rfl⟩
      simp only [hm] at x1 hlr hgi hbd
      have HLR : Hid (LR lo 3 1 wr.heap.size wr (.slice ax m cx) m (C.map (Value.int .i64)) (.slice ax m cx) 0 [] wr) := hlr
      have HC : Hid (G[i]? = some (ff, .slice ax m cx, C) ∧ i < N ∧ m ≤ 1000000 ∧ C.length = m) := ⟨hgi, hlt, hbd, hm⟩
      obtain ⟨x, hx⟩ : ∃ x, mk + (i : Int) = x := ⟨_, rfl⟩
      have hwx : wrap64 (mk + (i : Int)) = x := by rw [← hx]; exact IntWalk.wrap64_in _ ⟨by have := HMK.out; omega, by have := HMK.out; have := HN.out; omega⟩
      have HX : Hid (mk + (i : Int) = x) := hx
      clear hf hi' hlt hil hbd hfx hx hm hgi hlr hYl
      go_upto_region 8 with (fail)
      obtain ⟨wi, hwi⟩ : ∃ wi, wr = wi := ⟨_, rfl⟩
      rw [hwi] at HFi
      have HLR2 : Hid (LR lo 3 1 wi.heap.size wi (.slice ax m cx) m (C.map (Value.int .i64)) (.slice ax m cx) 0 [] wr) := by rw [← hwi]; exact HLR.out
      clear hwi HLR x1
      go_loopw [8, 9] (fun v8 v9 y => ∃ (j n2 : Nat) (a8 : Option Addr) (k8 : Nat), j ≤ 40 ∧ n2 = m + j ∧ v9 = .int .i64 j ∧ v8 = .slice a8 n2 k8 ∧ LR lo 3 1 wi.heap.size wi (.slice ax m cx) m (C.map (Value.int .i64)) (.slice a8 n2 k8) j (rp j [.int .i64 x]) y) (fun _ v _ => 40 - (intOf v).toNat)
      case atStart => exact ⟨0, m, ax, cx, Nat.zero_le _, rfl, rfl, rfl, HLR2.out⟩
      case round =>
        clear HLR2
        obtain ⟨j, n2, a8, k8, hj, hn2, rfl, rfl, hl⟩ := hrel
        have HLj : Hid (LR lo 3 1 wi.heap.size wi (.slice ax m cx) m (C.map (Value.int .i64)) (.slice a8 n2 k8) j (rp j [.int .i64 x]) wr ∧ n2 = m + j) := ⟨hl, hn2⟩
        by_cases hj40 : j < 40
        · have b3 : (j : Int) < (40 : Int) := by omega
          have happ := hl.int HC.out.2.2.1 hj40
          have HAPP : Hid (∀ ty, ∃ v' w', (Builtin.append_ #[22, 22] ty #[.slice a8 n2 k8, .slice (some ⟨wr.heap.size, 0, none⟩) 1 1]).run Tryz.prog (wr.alloc (.cells #[.int .i64 x] 3)) = .ok v' w' ∧ LR lo 3 1 wi.heap.size wi (.slice ax m cx) m (C.map (Value.int .i64)) v' (j + 1) (rp (j + 1) [.int .i64 x]) w') := happ
          have HJ : Hid (j < 40) := hj40
          clear happ hl hj hn2 hj40
          go_wp2_with (at_builtin; go_loud (refine wpList_app _ rfl _ _ 22 22 rfl _ _ rfl rfl HAPP.out ?_; rintro v7 w7 hlr7; (obtain ⟨a7, c7, rfl⟩ := hlr7.hl.sl); have H7 : Hid (LR lo 3 1 wi.heap.size wi (.slice ax m cx) m (C.map (Value.int .i64)) (.slice a7 (m + (j + 1)) c7) (j + 1) (rp (j + 1) [.int .i64 x]) w7) := hlr7; clear hlr7))
          exact ⟨⟨j + 1, m + (j + 1), a7, c7, HJ.out, rfl, congrArg (Value.int .i64) (by omega), rfl, H7.out⟩, by have := HJ.out; simp [intOf]; omega⟩
        · obtain rfl : j = 40 := by omega
          have b3 : ¬ ((40 : Nat) : Int) < (40 : Int) := by omega
          clear hl hj hn2 hj40
          go_upto_region 11 with (fail)
          have hgm := HFi.out.1.mid HC.out.1 HFi.out.2 (by have h := HLj.out.1; rw [HC.out.2.2.2]; exact h)
          have happ := HFi.out.1.mv.row (t16 := 36) Tryz.underlying36 parts_sq (by decide) (UF_at HC.out.1) HFi.out.2 (by have := HC.out; have := HN.out; omega) (l := .slice a8 n2 k8) (y := wr) (by have h := HLj.out.1; rw [HNW.out, HX.out, HC.out.2.2.2]; exact h)
          have HGM : Hid (GW q lo hi w nm (.slice a0 n0 c0) (.slice a1 n1 c1) (.slice al L cl) (.slice (some ⟨gu, 0, none⟩) N cu) fs G nw q3 wD (.slice aT i cT) (.slice none 0 0) Y wr) := hgm
          have HAPP : Hid (∀ ty, ∃ v' w', (Builtin.append_ #[36, 36] ty #[.slice aT i cT, .slice (some ⟨wr.heap.size, 0, none⟩) 1 1]).run Tryz.prog (wr.alloc (.cells #[.slice a8 n2 k8] 22)) = .ok v' w' ∧ (MV lo 3 1 q3 wD (UF G) nw 22 v' (Y ++ [.slice a8 n2 k8]) w' ∧ (∃ a c, v' = .slice a (i + 1) c) ∧ ∀ g, g < wr.heap.size → (Value.slice aT i cT).ownBlock ≠ some g → w'.heap[g]? = wr.heap[g]?)) := happ
          have x2 : wr.cell? ⟨q + 1 + 1, 0, none⟩ = some (.slice aT i cT) := cell_of_row _ _ 0 _ _ _ hgm.b2
          clear hgm happ
          go_wp2_with (at_builtin; go_loud (refine wpList_app _ rfl _ _ 36 36 rfl _ _ rfl rfl HAPP.out ?_; rintro v7 w7 ⟨hmv7, ⟨a7, c7, rfl⟩, hk7⟩; have H7 : Hid (GW q lo hi w nm (.slice a0 n0 c0) (.slice a1 n1 c1) (.slice al L cl) (.slice (some ⟨gu, 0, none⟩) N cu) fs G nw q3 wD (.slice a7 (i + 1) c7) (.slice none 0 0) (Y ++ [.slice a8 n2 k8]) (w7.setCell ⟨q + 2, 0, none⟩ (.slice a7 (i + 1) c7))) := (HGM.out.set0 hmv7 hk7 (by rw [HFi.out.2, HN.out.1]; exact HC.out.2.1)); have hb7 : w7.heap[q + 2]? = some (.cells #[.slice aT i cT, .slice none 0 0] 38) := ((hk7 _ (by have := HGM.out.lt; omega) (fun e => by have := (HGM.out.mv.l16.lt _ e).1; have := HGM.out.qq; omega)).trans HGM.out.b2); have x7 : w7.cell? ⟨q + 1 + 1, 0, none⟩ = some (.slice aT i cT) := cell_of_row _ _ 0 _ _ _ hb7; have f7 : w7.frozen? ⟨q + 1 + 1, 0, none⟩ = false := frozen_of_row _ _ _ _ _ hb7; clear hmv7 hk7 hb7 x2))
          exact ⟨⟨i + 1, a7, c7, Y ++ [.slice a8 n2 k8], HC.out.2.1, congrArg (Value.int .i64) (wrapS HC.out.2.1 (by have := HN.out; omega)), by rw [List.length_append, HFi.out.2]; rfl, H7.out⟩, measS HC.out.2.1 (by have := HN.out; omega)⟩
    · obtain rfl : i = N := by omega
      have b1 : ¬ (i : Int) < (i : Int) := by omega
      have x3 : wr.cell? ⟨q, 3, none⟩ = some (.slice al L cl) := cell_of_row _ _ 3 _ _ _ hf.b0
      have x2 : wr.cell? ⟨q + 1 + 1, 1, none⟩ = some (.slice none 0 0) := cell_of_row _ _ 1 _ _ _ hf.b2
      have f2 : wr.frozen? ⟨q + 1 + 1, 1, none⟩ = false := frozen_of_row _ _ _ _ _ hf.b2
      have hs1 := hf.set1 (by rw [hYl, HN.out.1]; exact Nat.le_refl _) (.slice al L cl)
      have HS1 : Hid (GW q lo hi w nm (.slice a0 n0 c0) (.slice a1 n1 c1) (.slice al L cl) (.slice au i cu) fs G nw q3 wD (.slice aT i cT) (.slice al L cl) Y (wr.setCell ⟨q + 1 + 1, 1, none⟩ (.slice al L cl))) := hs1
      clear hf hi' hlt hYl hs1
      go_upto_region 14 with (fail)
      clear x3 x2 f2
      obtain ⟨wi, hwi⟩ : ∃ wi, wr.setCell ⟨q + 1 + 1, 1, none⟩ (.slice al L cl) = wi := ⟨_, rfl⟩
      rw [hwi] at HS1 ⊢
      clear hwi
      obtain ⟨wx, hwx⟩ : ∃ wx, wi = wx := ⟨_, rfl⟩
      have HL2 : Hid (LR lo 43 2 (q + 2) wx (.slice al L cl) L (lvc fs) (.slice al L cl) 0 (rp 0 [.int .i64 mk, .slice none 0 0]) wi ∧ wi.heap[q + 2]? = some (.cells #[.slice aT i cT, .slice al L cl] 38)) := by
        rw [← hwx]
        have hl := HS1.out.ln
        rw [HG.out.2.2.2] at hl
        exact ⟨LR.start hl (by have := HS1.out.lt; have := HS1.out.hq; omega) (fun g hg => (HS1.out.hl g hg).1), HS1.out.b2⟩
      rw [hwx] at HS1
      clear hwx
      go_loopw [10] (fun v10 y => ∃ (j n2 : Nat) (a8 : Option Addr) (k8 : Nat), j ≤ 40 ∧ n2 = L + j ∧ v10 = .int .i64 j ∧ LR lo 43 2 (q + 2) wx (.slice al L cl) L (lvc fs) (.slice a8 n2 k8) j (rp j [.int .i64 mk, .slice none 0 0]) y ∧ y.heap[q + 2]? = some (.cells #[.slice aT i cT, .slice a8 n2 k8] 38)) (fun v _ => 40 - (intOf v).toNat)
      case atStart => exact ⟨0, L, al, cl, Nat.zero_le _, rfl, rfl, HL2.out⟩
      case round =>
        clear HL2
        obtain ⟨j, n2, a8, k8, hj, hn2, rfl, hl, hb2⟩ := hrel
        have HLj : Hid (LR lo 43 2 (q + 2) wx (.slice al L cl) L (lvc fs) (.slice a8 n2 k8) j (rp j [.int .i64 mk, .slice none 0 0]) wr ∧ wr.heap[q + 2]? = some (.cells #[.slice aT i cT, .slice a8 n2 k8] 38) ∧ n2 = L + j) := ⟨hl, hb2, hn2⟩
        by_cases hj40 : j < 40
        · have b3 : (j : Int) < (40 : Int) := by omega
          have happ := hl.line (by have := HG.out; omega) hj40
          have HAPP : Hid (∀ ty, ∃ v' w', (Builtin.append_ #[24, 24] ty #[.slice a8 n2 k8, .slice (some ⟨wr.heap.size, 0, none⟩) 1 1]).run Tryz.prog (wr.alloc (.cells #[.int .i64 mk, .slice none 0 0] 43)) = .ok v' w' ∧ LR lo 43 2 (q + 2) wx (.slice al L cl) L (lvc fs) v' (j + 1) (rp (j + 1) [.int .i64 mk, .slice none 0 0]) w' ∧ (∃ a c, v' = .slice a (L + j + 1) c) ∧ ∀ g, g < wr.heap.size → (Value.slice a8 n2 k8).ownBlock ≠ some g → w'.heap[g]? = wr.heap[g]?) := happ
          have HJ : Hid (j < 40) := hj40
          have x2 : wr.cell? ⟨q + 1 + 1, 1, none⟩ = some (.slice a8 n2 k8) := cell_of_row _ _ 1 _ _ _ hb2
          clear happ hl hj hn2 hj40 hb2
          go_wp2_with (at_builtin; go_loud (refine wpList_app _ rfl _ _ 24 24 rfl _ _ rfl rfl HAPP.out ?_; rintro v7 w7 ⟨hlr7, ⟨a7, c7, rfl⟩, hk7⟩; have hX7 : (Value.slice a8 n2 k8).ownBlock ≠ some (q + 2) := (fun e => by rcases HLj.out.1.lb (Nat.le_refl _) _ e with h1 | h1; (have := HS1.out.hl _ h1; have := HS1.out.hq; omega); (have := HS1.out.lt; omega)); have hb7 : w7.heap[q + 2]? = some (.cells #[.slice aT i cT, .slice a8 n2 k8] 38) := ((hk7 _ (by have := HLj.out.1.bl.size; have := HS1.out.lt; omega) hX7).trans HLj.out.2.1); have H7 : Hid (LR lo 43 2 (q + 2) wx (.slice al L cl) L (lvc fs) (.slice a7 (L + j + 1) c7) (j + 1) (rp (j + 1) [.int .i64 mk, .slice none 0 0]) w7 ∧ w7.heap[q + 2]? = some (.cells #[.slice aT i cT, .slice a8 n2 k8] 38)) := ⟨hlr7, hb7⟩; have x7 : w7.cell? ⟨q + 1 + 1, 1, none⟩ = some (.slice a8 n2 k8) := cell_of_row _ _ 1 _ _ _ hb7; have f7 : w7.frozen? ⟨q + 1 + 1, 1, none⟩ = false := frozen_of_row _ _ _ _ _ hb7; clear hlr7 hk7 hb7 x2 hX7))
          refine ⟨⟨j + 1, L + j + 1, a7, c7, HJ.out, rfl, congrArg (Value.int .i64) (by omega), H7.out.1.box ⟨by have := HS1.out.hq; omega, by have := HS1.out.lt; omega⟩ (fun e => by have := HS1.out.hl _ e; have := HS1.out.hq; omega) 1 _, ?_⟩, by have := HJ.out; simp [intOf]; omega⟩
          exact heap_setCell_same w7 _ _ _ _ _ H7.out.2
        · obtain rfl : j = 40 := by omega
          have b3 : ¬ ((40 : Nat) : Int) < (40 : Int) := by omega
          have x1 : wr.cell? ⟨q + 1 + 1, 0, none⟩ = some (.slice aT i cT) := cell_of_row _ _ 0 _ _ _ hb2
          have x2 : wr.cell? ⟨q + 1 + 1, 1, none⟩ = some (.slice a8 n2 k8) := cell_of_row _ _ 1 _ _ _ hb2
          have hS := HS1.out
          have hq2 := hS.hq
          have hqq := hS.qq
          have hsz := hS.lt
          have hvl : ∀ g, (Value.slice al L cl).ownBlock = some g → lo ≤ g ∧ g < hi ∧ g ∉ obs G := hS.hl
          have hst : ∀ g, g < wx.heap.size → g ≠ q + 2 → (∀ e, (Value.slice al L cl).ownBlock = some e → e ≠ g) → wr.heap[g]? = wx.heap[g]? := fun g h1 h2 h3 => hl.st g h1 h2 (fun e => h3 g e rfl)
          have hb1 : wr.heap[q + 1]? = some (.cells zGr 38) := (hst (q + 1) (by omega) (by omega) (fun e he => by have := hvl e he; omega)).trans hS.b1
          have hmv : MV lo 3 1 q3 wD (UF G) nw 22 (.slice aT i cT) Y wr := hS.mv.keep hl.bl (fun g hg hx => hst g hg (by
            rcases hx with ⟨x, hx, hg⟩ | hx
            · obtain ⟨f, hf, rfl⟩ := List.mem_map.1 hx
              have := hS.hu g (obs_mem hf hg); omega
            · omega) (fun e he => by
            rcases hx with ⟨x, hx, hg⟩ | hx
            · obtain ⟨f, hf, rfl⟩ := List.mem_map.1 hx
              intro e'
              subst e'
              exact (hvl e he).2.2 (obs_mem hf hg)
            · have := hvl e he; omega)) (by rw [HFi.out.2]; simp [UF]; have := HN.out.1; omega)
          have hkp : ∀ k, hi ≤ k → k < q → wr.heap[k]? = w.heap[k]? := fun k h1 h2 => (hst k (by omega) (by omega) (fun e he => by have := hvl e he; omega)).trans (hS.kp k h1 h2)
          have HB1 : Hid (wr.heap[q + 1]? = some (.cells zGr 38)) := hb1
          have HMV : Hid (MV lo 3 1 q3 wD (UF G) nw 22 (.slice aT i cT) Y wr ∧ (∀ k, hi ≤ k → k < q → wr.heap[k]? = w.heap[k]?)) := ⟨hmv, hkp⟩
          clear hl hj hn2 hj40 hb2 hS hq2 hqq hsz hvl hst hmv hkp
          go_wp2_with (with_reducible refine at_list ?_; refine wpList_store_row rfl 38 (.tmp 4) (.tmp 53) rfl (q + 1) #[.slice aT i cT, .slice a8 n2 k8] rfl rfl 38 zGr hb1 (ipG _ _) rfl (by simp [Value.oneCell']) ?_)
          have hot : ∀ b, b ≠ q + 1 → (wr.setRow (q + 1) #[.slice aT i cT, .slice a8 n2 k8]).heap[b]? = wr.heap[b]? := fun b h => setRow_other _ _ _ _ h
          try simp only [Exit.inBlock, Exit.then]
          refine bodyPost_ret (v := .agg #[.slice aT i cT, .slice a8 n2 k8]) ?_ rfl ⟨.slice aT i cT, .slice a8 n2 k8, rfl, ?_⟩
          · exact results_cell_row (P := Tryz.prog) (fn := Tryz.f10) (p := 4) (ty := 38) rfl _ _ (q + 1) 38 #[.slice aT i cT, .slice a8 n2 k8] (0, 0) _ rfl (setRow_heap _ _ _ _ 38 _ HB1.out) Tryz.underlying38 rfl (ipG _ _)
          · have hbw : Below lo wr (wr.setRow (q + 1) #[.slice aT i cT, .slice a8 n2 k8]) := below_setRow (Below.refl _ _) _ (by have := HS1.out.hq; omega) _
            obtain ⟨W9, hW9⟩ : ∃ W9, wr.setRow (q + 1) #[.slice aT i cT, .slice a8 n2 k8] = W9 := ⟨_, rfl⟩
            rw [hW9] at hot hbw ⊢
            refine and_imp_ex (Y := Y) ?_
            exact grow_end HOQ.out.1 HG.out.1 HH.out.1 HH.out.2.1 HS1.out (by rw [HFi.out.2]; have := HN.out.1; have := HG.out.2.1; have := HG.out.2.2.2; omega) (fun t => HNW.out t) (by have h := HLj.out.1; rw [HG.out.2.2.2]; exact h) HMV.out.1 HMV.out.2 hbw hot HOQ.out.2
end Go.Proofs.YtpfidohkohldaaaGreatDoor
