import Derived.Test.YtpfidohkohldaaaGreatDoorMqbd
namespace Go.Proofs.YtpfidohkohldaaaGreatDoor
set_option linter.unusedSimpArgs false
set_option linter.unusedVariables false
open Go.ChangeShapes Go.WideShapes Go.ChangeAt Go.RowKit Go.Pin Go.Pat Go.Deep
theorem rp_at {c : List Value} {k : Nat} (hk : c.length = k) : ∀ (n : Nat) {a b : Nat} {v : Value}, a < n → b < k → c[b]? = some v → (rp n c)[a * k + b]? = some v
  | 0, a, b, v, ha, _, _ => absurd ha (Nat.not_lt_zero _)
  | n + 1, a, b, v, ha, hb, hv => by
    have e : rp (n + 1) c = c ++ rp n c := by unfold rp; rw [List.replicate_succ, List.flatten_cons]
    rw [e]
    cases a with
    | zero =>
      rw [Nat.zero_mul, Nat.zero_add, List.getElem?_append_left (by omega)]
      exact hv
    | succ a =>
      rw [Nat.add_mul, Nat.one_mul, List.getElem?_append_right (by omega), show a * k + k + b - c.length = a * k + b by omega]
      exact rp_at hk n (by omega) hb hv
/-- the cells of what goes on from a filled list -/
theorem tk_at {C : List Int} {x : Int} (hC : C = List.replicate C.length x) {k : Nat} (hk : k < C.length + 40) : (C.map (Value.int .i64) ++ rp 40 [.int .i64 x])[k]? = some (.int .i64 x) := by
  rw [hC, List.map_replicate, List.getElem?_append]
  split
  · rename_i h
    rw [List.getElem?_replicate]
    simp at h
    simp [h]
  · rename_i h
    simp at h
    have := rp_at (c := [Value.int .i64 x]) (k := 1) rfl 40 (a := k - C.length) (b := 0) (by omega) (by omega) rfl
    simpa using this
theorem ln_at {fs : List Lv} {mk : Int} (hL : ∀ f ∈ fs, f.1 = mk) {i : Nat} (hi : i < fs.length + 40) : (lvc fs ++ rp 40 [.int .i64 mk, .slice none 0 0])[i * 2]? = some (.int .i64 mk) ∧ ∃ u, (lvc fs ++ rp 40 [.int .i64 mk, .slice none 0 0])[i * 2 + 1]? = some u ∧ (fs.length ≤ i → u = .slice none 0 0) := by
  rw [List.getElem?_append, List.getElem?_append, lvq_len]
  by_cases h : i < fs.length
  · rw [if_pos (by omega), if_pos (by omega)]
    have := lvq_get fs i h
    have e : (fs.getD i (0, undef, [])).1 = mk := hL _ (by simp [List.getD, h])
    rw [e] at this
    exact ⟨this.1, _, this.2, fun h' => absurd h' (by omega)⟩
  · rw [if_neg (by omega), if_neg (by omega)]
    have h0 := rp_at (c := [Value.int .i64 mk, .slice none 0 0]) (k := 2) rfl 40 (a := i - fs.length) (b := 0) (by omega) (by omega) rfl
    have h1 := rp_at (c := [Value.int .i64 mk, .slice none 0 0]) (k := 2) rfl 40 (a := i - fs.length) (b := 1) (by omega) (by omega) rfl
    rw [show (i - fs.length) * 2 + 0 = i * 2 - fs.length * 2 by omega] at h0
    rw [show (i - fs.length) * 2 + 1 = i * 2 + 1 - fs.length * 2 by omega] at h1
    exact ⟨h0, _, h1, fun _ => rfl⟩
section
variable {lo hi lo2 hi2 : Nat} {v0 v1 vl : Value} {p : Pt} {fs : List Lv} {mk : Int} {vT vL : Value} {Y : List Value} {w w' : World}
theorem GR.below (h : GR lo hi lo2 hi2 v0 v1 vl p fs mk vT vL Y w) (hb : Below w.heap.size w w') : GR lo hi lo2 hi2 v0 v1 vl p fs mk vT vL Y w' :=
  h.keep (fun k hk => hb.block k (by have := h.h2.2; have := h.ow.2.2.2.2; omega)) hb.size
/-- what bears reads of the lists -/
theorem GR.rdT {aT : Option Addr} {nT cT : Nat} (h : GR lo hi lo2 hi2 v0 v1 vl p fs mk (.slice aT nT cT) vL Y w) (hF : ∀ (t : Nat) (f : Lv), (als v0 v1 p fs)[t]? = some f → f.2.2 = List.replicate f.2.2.length (mk + (t : Int))) {i : Nat} {f : Lv} (hf : (als v0 v1 p fs)[i]? = some f) :
    nT = fs.length + 2 ∧ ∃ gT ay cy, aT = some ⟨gT, 0, none⟩ ∧ w.cell? ⟨gT, i, none⟩ = some (.slice ay (f.2.2.length + 40) cy) ∧ ∀ k, k < f.2.2.length + 40 → ∃ gy oy, ay = some ⟨gy, oy, none⟩ ∧ w.cell? ⟨gy, oy + k, none⟩ = some (.int .i64 (mk + (i : Int))) := by
  have hil : i < Y.length := by rw [h.yl, ← als_len v0 v1 p fs]; exact (List.getElem?_eq_some_iff.1 hf).1
  obtain ⟨e, hc⟩ := own_cell h.tk
  obtain ⟨gT, ea, _, h1⟩ := hc i Y[i] (List.getElem?_eq_getElem hil)
  obtain ⟨h2, _⟩ := h.ty i f Y[i] hf (List.getElem?_eq_getElem hil)
  obtain ⟨ay, cy, ey⟩ := h2.sl
  rw [ey] at h1 h2
  refine ⟨by rw [e, h.yl], gT, ay, cy, ea, h1, fun k hk => ?_⟩
  obtain ⟨_, gy, oy, e1, hc1, _⟩ := h2.cell (tk_at (hF i f hf) hk)
  exact ⟨gy, oy, e1, hc1⟩
theorem GR.rdL {aL : Option Addr} {nL cL : Nat} (h : GR lo hi lo2 hi2 v0 v1 vl p fs mk vT (.slice aL nL cL) Y w) (hL : ∀ f ∈ fs, f.1 = mk) : nL = fs.length + 40 ∧ ∀ i, i < fs.length + 40 → ∃ g o u, aL = some ⟨g, o, none⟩ ∧ w.cell? ⟨g, o + i * 2, none⟩ = some (.int .i64 mk) ∧ w.cell? ⟨g, o + i * 2 + 1, none⟩ = some u ∧ (fs.length ≤ i → u = .slice none 0 0) := by
  obtain ⟨a, c, e⟩ := h.ln.sl
  injection e with e1 e2 e3
  refine ⟨e2, fun i hi => ?_⟩
  obtain ⟨h1, u, h2, h3⟩ := ln_at hL hi
  obtain ⟨_, g, o, k1, k2, _⟩ := h.ln.cell h1
  obtain ⟨_, g', o', k1', k2', _⟩ := h.ln.cell h2
  rw [k1] at k1'
  injection k1' with k1'
  injection k1' with x1 x2
  subst x1 x2
  exact ⟨g, o, u, k1, k2, by rw [Nat.add_assoc]; exact k2', h3⟩
end
set_option maxRecDepth 100000 in
set_option maxHeartbeats 8000000 in
theorem bears_true {w : World} {lo hi lo2 hi2 : Nat} {v0 v1 vl : Value} {p : Pt} {fs : List Lv} {mk : Int} {vT vL : Value} {Y : List Value} (hR : GR lo hi lo2 hi2 v0 v1 vl p fs mk vT vL Y w) (hn : fs.length ≤ 2000) (hb : ∀ f ∈ als v0 v1 p fs, f.2.2.length ≤ 1000000) (hm : 0 ≤ mk ∧ mk ≤ 1000000)
    (hF : ∀ (t : Nat) (f : Lv), (als v0 v1 p fs)[t]? = some f → f.2.2 = List.replicate f.2.2.length (mk + (t : Int))) (hLm : ∀ f ∈ fs, f.1 = mk) :
    Calls Tryz.prog 11 #[.agg #[.string p.nm, v0, v1, vl], .agg #[vT, vL], .int .i64 mk] w fun e w' => e = .returned (.bool true) ∧ Below w.heap.size w w' := by
  have h := hR.ow.1
  have CLs := fun Y (hY : Below w.heap.size w Y) => lists_any (h.below hY) hn
  obtain ⟨aT, cT, hvT⟩ := own_slice' hR.tk
  obtain ⟨aL, cL, hvL⟩ := hR.ln.sl
  rw [hR.yl] at hvT
  subst hvT hvL
  obtain ⟨⟨a0, c0, rfl⟩, ⟨a1, c1, rfl⟩, ⟨al, cl, rfl⟩, hfs⟩ := h.sl
  have hst := pb_start w p.nm (.slice a0 p.b0.length c0) (.slice a1 p.b1.length c1) (.slice al fs.length cl)
  have hrT := fun Y (hY : Below w.heap.size w Y) (i : Nat) (f : Lv) (hf : (als (.slice a0 p.b0.length c0) (.slice a1 p.b1.length c1) p fs)[i]? = some f) => (hR.below hY).rdT hF hf
  have hrL := fun Y (hY : Below w.heap.size w Y) => ((hR.below hY).rdL hLm).2
  have hln := fun Y (hY : Below w.heap.size w Y) j (hj : j < fs.length) => ((h.below hY).line hj).2
  have hrI := fun Y (hY : Below w.heap.size w Y) f (hf : f ∈ als (.slice a0 p.b0.length c0) (.slice a1 p.b1.length c1) p fs) => (h.below hY).2.2.2.own f hf
  obtain ⟨G, hG⟩ : ∃ G, als (.slice a0 p.b0.length c0) (.slice a1 p.b1.length c1) p fs = G := ⟨_, rfl⟩
  have hGl : G.length = fs.length + 2 := by rw [← hG]; simp [als]
  rw [hG] at hb hF hrI
  have hsl : ∀ f ∈ G, ∃ a c, f.2.1 = .slice a f.2.2.length c := fun f hf => by
    rw [← hG] at hf
    exact own_slice' (h.2.2.2.own f hf)
  obtain ⟨q, hq⟩ : ∃ q, w.heap.size = q := ⟨_, rfl⟩
  obtain ⟨n0, hn0⟩ : ∃ n0, p.b0.length = n0 := ⟨_, rfl⟩
  obtain ⟨n1, hn1⟩ : ∃ n1, p.b1.length = n1 := ⟨_, rfl⟩
  obtain ⟨L, hL⟩ : ∃ L, fs.length = L := ⟨_, rfl⟩
  obtain ⟨nm, hnm⟩ : ∃ nm, p.nm = nm := ⟨_, rfl⟩
  simp only [hq, hn0, hn1, hL, hnm] at hst CLs hn hGl hG hrT hrL hln hrI ⊢
  rw [hG] at CLs
  simp only [hG] at hrT
  obtain ⟨W1, hW1⟩ : ∃ W1, w.alloc (.cells #[.string nm, .slice a0 n0 c0, .slice a1 n1 c1, .slice al L cl] 26) = W1 := ⟨_, rfl⟩
  rw [hW1] at hst
  have e1 : W1.heap.size = q + 1 := by rw [← hW1, size_alloc, hq]
  obtain ⟨N, hN⟩ : ∃ N, L + 2 = N := ⟨_, rfl⟩
  obtain ⟨M, hM⟩ : ∃ M, L + 40 = M := ⟨_, rfl⟩
  simp only [hN, hM] at hst CLs hGl hrT hrL ⊢
  have hb2 : Below W1.heap.size W1 (W1.alloc (.cells #[.slice aT N cT, .slice aL M cL] 38)) := (Below.refl _ _).alloc (Nat.le_refl _) _
  have r1 : (W1.alloc (.cells #[.slice aT N cT, .slice aL M cL] 38)).heap[q + 1]? = some (.cells #[.slice aT N cT, .slice aL M cL] 38) := by rw [← e1]; exact heap_alloc_new _ _
  have e3 : (W1.alloc (.cells #[.slice aT N cT, .slice aL M cL] 38)).heap.size = q + 2 := by rw [size_alloc, e1]
  obtain ⟨W3, hW3⟩ : ∃ W3, W1.alloc (.cells #[.slice aT N cT, .slice aL M cL] 38) = W3 := ⟨_, rfl⟩
  rw [hW3] at hb2 r1 e3
  have hp3 := hst.below hb2
  have HP3 : Hid (PB q w nm (.slice a0 n0 c0) (.slice a1 n1 c1) (.slice al L cl) W3 ∧ W3.heap[q + 1]? = some (.cells #[.slice aT N cT, .slice aL M cL] 38) ∧ W3.heap.size = q + 2) := ⟨hp3, r1, e3⟩
  have HG : Hid (G.length = N ∧ L ≤ 2000 ∧ L + 2 = N ∧ L + 40 = M ∧ w.heap.size = q) := ⟨hGl, hn, hN, hM, hq⟩
  have HRT : Hid (∀ Y, Below q w Y → ∀ (i : Nat) (f : Lv), G[i]? = some f → N = N ∧ ∃ gT ay cy, aT = some ⟨gT, 0, none⟩ ∧ Y.cell? ⟨gT, i, none⟩ = some (.slice ay (f.2.2.length + 40) cy) ∧ ∀ k, k < f.2.2.length + 40 → ∃ gy oy, ay = some ⟨gy, oy, none⟩ ∧ Y.cell? ⟨gy, oy + k, none⟩ = some (.int .i64 (mk + (i : Int)))) := fun Y hY i f hf => by have := hrT Y hY i f hf; exact ⟨rfl, this.2⟩
  have HRL : Hid (∀ Y, Below q w Y → ∀ i, i < M → ∃ g o u, aL = some ⟨g, o, none⟩ ∧ Y.cell? ⟨g, o + i * 2, none⟩ = some (.int .i64 mk) ∧ Y.cell? ⟨g, o + i * 2 + 1, none⟩ = some u ∧ (L ≤ i → u = .slice none 0 0)) := hrL
  have HLN : Hid (∀ Y, Below q w Y → ∀ j, j < L → ∃ g o, al = some ⟨g, o, none⟩ ∧ Y.cell? ⟨g, o + j * 2, none⟩ = some (.int .i64 mk)) := fun Y hY j hj => by
    obtain ⟨g, o, k1, k2, _⟩ := hln Y hY j hj
    refine ⟨g, o, k1, ?_⟩
    rw [k2, hLm _ (by simp [List.getD, show j < fs.length by omega])]
  have HRI : Hid (∀ Y, Below q w Y → ∀ f ∈ G, Y.ownsRow lo 3 1 f.2.1 f.2.2.length (f.2.2.map (Value.int .i64))) := hrI
  have HF : Hid (∀ (t : Nat) (f : Lv), G[t]? = some f → f.2.2 = List.replicate f.2.2.length (mk + (t : Int))) := hF
  have HBD : Hid (∀ f ∈ G, f.2.2.length ≤ 1000000) := hb
  have HSL : Hid (∀ f ∈ G, ∃ a c, f.2.1 = .slice a f.2.2.length c) := hsl
  have HMK : Hid (0 ≤ mk ∧ mk ≤ 1000000) := hm
  have CL1 := CLs W3 hp3.old
  have k0 := hp3.c0
  have k1 := hp3.c1
  have k2 := hp3.c2
  have k3 := hp3.c3
  simp only [e3] at CL1
  clear hst CLs hG hGl hn hb hm hfs hsl h r1 e3 hp3 hb2 hn0 hn1 hL hnm hN hM hrT hrL hln hrI hF hLm hR
  go_enter Tryz.func11, Tryz.ntmps11
  go_upto_region 1 with (fail)
  try simp only [e1]
  try rw [hW3]
  clear hW3 hW1 e1 hq
  go_upto_region 3 with (go_at_call 21; refine Calls.mono CL1 ?_; clear CL1; rintro e w2 ⟨u, rfl, ho, hb⟩; have HP2 : Hid (PB q w nm (.slice a0 n0 c0) (.slice a1 n1 c1) (.slice al L cl) w2 ∧ w2.heap[q + 1]? = some (.cells #[.slice aT N cT, .slice aL M cL] 38)) := (by have h3 := HP3.out; rw [← h3.2.2] at hb; exact ⟨h3.1.below hb, (hb.block _ (by omega)).trans h3.2.1⟩); have HO2 : Hid (w2.ownsRow (q + 2) 22 1 u N (G.map (·.2.1))) := ho; clear ho hb k0 k1 k2 k3)
  obtain ⟨au, cu, rfl⟩ := own_slice' HO2.out
  have t0 : w2.cell? ⟨q + 1, 0, none⟩ = some (.slice aT N cT) := cell_of_row _ _ 0 _ _ _ HP2.out.2
  have t1 : w2.cell? ⟨q + 1, 1, none⟩ = some (.slice aL M cL) := cell_of_row _ _ 1 _ _ _ HP2.out.2
  have k3 : w2.cell? ⟨q, 3, none⟩ = some (.slice al L cl) := HP2.out.1.c3
  have HB2 : Hid (Below q w w2) := HP2.out.1.old
  clear HP3 HP2
  go_loopw [8] (fun v8 wr => ∃ i : Nat, i ≤ N ∧ v8 = .int .i64 i ∧ wr = w2) (fun v _ => N - (intOf v).toNat)
  case atStart => exact ⟨0, Nat.zero_le _, rfl, rfl⟩
  case round =>
    obtain ⟨i, hi', rfl, rfl⟩ := hrel
    by_cases hlt : i < N
    · have b1 : (i : Int) < (N : Int) := by omega
      have bi : (0 : Int) ≤ (i : Int) := by omega
      have hil : i < G.length := by rw [HG.out.1]; exact hlt
      obtain ⟨ax, cx, hx⟩ := HSL.out (G.getD i dLv) (by simp [List.getD, hil])
      have hbd := HBD.out (G.getD i dLv) (by simp [List.getD, hil])
      have hgi : G[i]? = some (G.getD i dLv) := by simp [List.getD, hil]
      rcases hfx : G.getD i dLv with ⟨ff, fv, C⟩
      rw [hfx] at hx hbd hgi
      simp only at hx hbd
      subst hx
      obtain ⟨gu, rfl, -, x1⟩ := (own_cell HO2.out).2 i (.slice ax C.length cx) (by rw [List.getElem?_map, hgi]; rfl)
      obtain ⟨-, gT, ay, cy, rfl, y1, hcy⟩ := HRT.out wr HB2.out i _ hgi
      have hro := HRI.out wr HB2.out _ (List.mem_of_getElem? hgi)
      have hCr := HF.out i _ hgi
      obtain ⟨m, hm⟩ : ∃ m, C.length = m := ⟨_, rfl⟩
      obtain ⟨m4, hm4⟩ : ∃ m4, m + 40 = m4 := ⟨_, rfl⟩
      obtain ⟨x, hx⟩ : ∃ x, mk + (i : Int) = x := ⟨_, rfl⟩
      simp only [hm, hx, hm4] at x1 y1 hcy hbd hCr hro
      have hwx : wrap64 (mk + (i : Int)) = x := by rw [← hx]; exact IntWalk.wrap64_in _ ⟨by have := HMK.out; omega, by have := HMK.out; have := HG.out; omega⟩
      have HCY : Hid (∀ k, k < m4 → ∃ gy oy, ay = some ⟨gy, oy, none⟩ ∧ wr.cell? ⟨gy, oy + k, none⟩ = some (.int .i64 x)) := hcy
      have HCX : Hid (∀ k, k < m → ∃ gx, ax = some ⟨gx, 0, none⟩ ∧ wr.cell? ⟨gx, k, none⟩ = some (.int .i64 x)) := fun k hk => by
        obtain ⟨gx, e, _, h2⟩ := (own_cell hro).2 k (.int .i64 x) (by rw [hCr, List.map_replicate, List.getElem?_replicate]; simp [hk])
        exact ⟨gx, e, h2⟩
      have HC : Hid (i < N ∧ m ≤ 1000000 ∧ m + 40 = m4) := ⟨hlt, hbd, hm4⟩
      clear hi' hlt hil hbd hfx hx hm hgi hcy hro hCr hm4
      go_upto_region 6 with (fail)
      obtain ⟨wi, hwi⟩ : ∃ wi, wr = wi := ⟨_, rfl⟩
      go_loopw [9] (fun v9 y => ∃ k : Nat, k ≤ m4 ∧ v9 = .int .i64 k ∧ y = wi) (fun v _ => m4 - (intOf v).toNat)
      case atStart => exact ⟨0, Nat.zero_le _, rfl, hwi⟩
      case round =>
        obtain ⟨k, hk, rfl, hwk⟩ := hrel
        subst hwi
        subst hwk
        by_cases hkm : k < m4
        · have b3 : (k : Int) < (m4 : Int) := by omega
          have b4 : (0 : Int) ≤ (k : Int) := by omega
          have HK : Hid (k < m4 ∧ m4 ≤ 140737488355328) := ⟨hkm, by have := HC.out; omega⟩
          obtain ⟨gy, oy, rfl, z1⟩ := HCY.out k hkm
          by_cases hk2 : k < m
          · obtain ⟨gx, rfl, z2⟩ := HCX.out k hk2
            have b5 : (k : Int) < (m : Int) := by omega
            clear hk hkm hk2
            go_wp2
            exact ⟨⟨k + 1, HK.out.1, congrArg (Value.int .i64) (wrapS HK.out.1 HK.out.2), trivial⟩, measS HK.out.1 HK.out.2⟩
          · have b5 : ¬ (k : Int) < (m : Int) := by omega
            clear hk hkm hk2
            go_wp2
            exact ⟨⟨k + 1, HK.out.1, congrArg (Value.int .i64) (wrapS HK.out.1 HK.out.2), trivial⟩, measS HK.out.1 HK.out.2⟩
        · obtain rfl : k = m4 := by omega
          have b3 : ¬ (k : Int) < (k : Int) := by omega
          clear hk hkm
          go_wp2
          exact ⟨⟨i + 1, HC.out.1, congrArg (Value.int .i64) (wrapS HC.out.1 (by have := HG.out; omega)), trivial⟩, measS HC.out.1 (by have := HG.out; omega)⟩
    · obtain rfl : i = N := by omega
      have b1 : ¬ (i : Int) < (i : Int) := by omega
      clear hi' hlt
      go_upto_region 11 with (fail)
      obtain ⟨wi, hwi⟩ : ∃ wi, wr = wi := ⟨_, rfl⟩
      go_loopw [10] (fun v10 y => ∃ j : Nat, j ≤ M ∧ v10 = .int .i64 j ∧ y = wi) (fun v _ => M - (intOf v).toNat)
      case atStart => exact ⟨0, Nat.zero_le _, rfl, hwi⟩
      case round =>
        obtain ⟨j, hj, rfl, hwj⟩ := hrel
        subst hwi
        subst hwj
        by_cases hjm : j < M
        · have b3 : (j : Int) < (M : Int) := by omega
          have b4 : (0 : Int) ≤ (j : Int) := by omega
          have HJ : Hid (j < M ∧ M ≤ 140737488355328) := ⟨hjm, by have := HG.out; omega⟩
          obtain ⟨g, o, u, rfl, z1, z2, hu⟩ := HRL.out wr HB2.out j hjm
          by_cases hjL : j < L
          · obtain ⟨gl, ol, rfl, z3⟩ := HLN.out wr HB2.out j hjL
            have b5 : (j : Int) < (L : Int) := by omega
            have b6 : ¬ (L : Int) ≤ (j : Int) := by omega
            clear hj hjm hjL hu
            go_wp2
            exact ⟨⟨j + 1, HJ.out.1, congrArg (Value.int .i64) (wrapS HJ.out.1 HJ.out.2), trivial⟩, measS HJ.out.1 HJ.out.2⟩
          · obtain rfl := hu (by omega)
            have b5 : ¬ (j : Int) < (L : Int) := by omega
            have b6 : (L : Int) ≤ (j : Int) := by omega
            clear hj hjm hjL hu
            go_wp2
            exact ⟨⟨j + 1, HJ.out.1, congrArg (Value.int .i64) (wrapS HJ.out.1 HJ.out.2), trivial⟩, measS HJ.out.1 HJ.out.2⟩
        · obtain rfl : j = M := by omega
          have b3 : ¬ (j : Int) < (j : Int) := by omega
          clear hj hjm
          go_wp2
          go_ret
          exact ⟨rfl, HB2.out⟩
end Go.Proofs.YtpfidohkohldaaaGreatDoor
