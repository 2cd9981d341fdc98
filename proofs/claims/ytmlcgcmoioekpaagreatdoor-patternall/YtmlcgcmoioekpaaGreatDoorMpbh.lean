import Derived.Test.YtmlcgcmoioekpaaGreatDoorMpbg
import Derived.Test.YtmlcgcmoioekpaaGreatDoorMpai
import Derived.Test.YtmlcgcmoioekpaaGreatDoorMpaj
import Derived.Test.YtmlcgcmoioekpaaGreatDoorMpab
import Derived.Test.YtmlcgcmoioekpaaGreatDoorMpbf
import Derived.Test.YtmlcgcmoioekpaaGreatDoorMpah
namespace Go.Proofs.YtmlcgcmoioekpaaGreatDoor
set_option linter.unusedSimpArgs false
set_option linter.unusedVariables false
open Go.ChangeShapes Go.WideShapes Go.ChangeAt Go.RowKit Go.Pin Go.Pat
/-- a pattern in lists with marks behind them -/
def Rmy (w : World) (v : Value) (p : Pt) : Prop := ∃ v0 v1 g, v = .agg #[.string p.nm, v0, v1, .slice (some ⟨g, 0, none⟩) p.ln.length (p.ln.length + 6)] ∧ RdM w v0 p.b0 ∧ RdM w v1 p.b1 ∧ p.ln.length ≤ 2000 ∧
  (∀ j, j < p.ln.length → ∃ u, w.cell? ⟨g, j * 2, none⟩ = some (.int .i64 (p.ln.getD j (0, [])).1) ∧ w.cell? ⟨g, j * 2 + 1, none⟩ = some u ∧ RdM w u (p.ln.getD j (0, [])).2) ∧
  ∀ k, k < 6 → w.cell? ⟨g, (p.ln.length + k) * 2, none⟩ = some (.int .i64 (800 + (k : Int))) ∧ w.cell? ⟨g, (p.ln.length + k) * 2 + 1, none⟩ = some (.slice none 0 0)
theorem Rmy.below {w W : World} {v : Value} {p : Pt} (h : Rmy w v p) (hb : Below w.heap.size w W) : Rmy W v p := by
  obtain ⟨v0, v1, g, e, h0, h1, hl, h2, h3⟩ := h
  refine ⟨v0, v1, g, e, h0.below hb, h1.below hb, hl, fun j hj => ?_, fun k hk => ⟨cell_below hb (h3 k hk).1, cell_below hb (h3 k hk).2⟩⟩
  obtain ⟨u, a, b, c⟩ := h2 j hj
  exact ⟨u, cell_below hb a, cell_below hb b, c.below hb⟩
theorem Rmy.rd {w : World} {v : Value} {p : Pt} (h : Rmy w v p) : RdP w v p := by
  obtain ⟨v0, v1, g, e, h0, h1, hl, h2, h3⟩ := h
  refine ⟨v0, v1, _, e, h0.rd, h1.rd, _, _, rfl, by omega, by omega, fun j hj => ?_⟩
  obtain ⟨u, a, b, c⟩ := h2 j hj
  exact ⟨g, 0, u, rfl, by rw [Nat.zero_add]; exact a, by rw [Nat.zero_add]; exact b, c.rd⟩
theorem lcs_at (l : List (Int × Value)) : ∀ (j : Nat), j < l.length → (lcs l)[j * 2]? = some (.int .i64 (l.getD j (0, undef)).1) ∧ (lcs l)[j * 2 + 1]? = some (l.getD j (0, undef)).2 := by
  induction l with
  | nil => intro j hj; simp at hj
  | cons g r ih =>
    intro j hj
    cases j with
    | zero => simp [lcs]
    | succ j =>
      have := ih j (by simpa using hj)
      have e : lcs (g :: r) = .int .i64 g.1 :: g.2 :: lcs r := by simp [lcs]
      rw [e, show (j + 1) * 2 = j * 2 + 1 + 1 by omega]
      simpa using this
theorem RmP.rmy {p : Pt} {q : Nat} {W w' : World} {e : Ending} (hs : Sml p) (h : RmP p q W e w') : ∃ v, e = .returned v ∧ Rmy w' v p ∧ Below q W w' := by
  obtain ⟨g0, g1, g, B, hB, he, ho, hm, hb⟩ := h
  refine ⟨_, he, ⟨_, _, g, rfl, ⟨g0, rfl, hs.1, (hm (g0, p.b0) (by simp)).2⟩, ⟨g1, rfl, hs.2.1, (hm (g1, p.b1) (by simp)).2⟩, hs.2.2.1, ?_⟩, hb⟩
  have hlen : (lfs p.ln B ++ lmk 6).length = p.ln.length + 6 := by simp [lfs, lmk, hB]
  have hc : ∀ i v, (lcs (lfs p.ln B ++ lmk 6))[i]? = some v → w'.cell? ⟨g, i, none⟩ = some v := fun i v hv => by
    rcases ho.2 with ⟨e', _⟩ | ⟨g', cap, cur, e', h1, hg, h2, h3, h4, h5⟩
    · cases e'
    · injection e' with e1 e2 e3
      injection e1 with e1
      injection e1 with e1
      subst e1
      have hi := (List.getElem?_eq_some_iff.1 hv).1
      rw [lcs_length, hlen] at hi
      rw [cell_of_row _ _ _ _ _ _ hg, ← hv, ← h5, List.getElem?_take_of_lt hi]
      simp
  constructor
  · intro j hj
    have h1 := lcs_at (lfs p.ln B ++ lmk 6) j (by omega)
    have hgd : (lfs p.ln B ++ lmk 6).getD j (0, undef) = ((p.ln.getD j (0, [])).1, tokV (B.getD j 0) (p.ln.getD j (0, [])).2) := by
      have hjB : j < B.length := by omega
      simp [List.getD, lfs, List.getElem?_append, hB, hj, hjB]
    rw [hgd] at h1
    refine ⟨_, hc _ _ h1.1, hc _ _ h1.2, B.getD j 0, rfl, ?_, ?_⟩
    · exact hs.2.2.2.2 j hj
    · refine (hm (B.getD j 0, (p.ln.getD j (0, [])).2) ?_).2
      refine List.mem_append_right _ ?_
      have hjB : j < B.length := by omega
      have : (lms p.ln B)[j]? = some (B.getD j 0, (p.ln.getD j (0, [])).2) := by simp [lms, List.getD, hj, hjB, List.getElem?_zipWith]
      exact List.mem_of_getElem? this
  · intro k hk
    have h1 := lcs_at (lfs p.ln B ++ lmk 6) (p.ln.length + k) (by omega)
    have hll : (lfs p.ln B).length = p.ln.length := by simp [lfs, hB]
    have hgd : (lfs p.ln B ++ lmk 6).getD (p.ln.length + k) (0, undef) = (800 + (k : Int), .slice none 0 0) := by
      simp [List.getD, List.getElem?_append, hll, lmk, hk]
    rw [hgd] at h1
    exact ⟨hc _ _ h1.1, hc _ _ h1.2⟩
set_option maxRecDepth 100000 in
set_option maxHeartbeats 2000000 in
theorem narrow_true {W : World} {u : Value} {C : List Int} (hu : RdM W u C) :
    Calls Tryz.prog 41 #[u, .int .i64 (C.length : Int)] W fun e w' => e = .returned (.bool true) ∧ Below W.heap.size W w' := by
  obtain ⟨g, rfl, h2, h3⟩ := hu
  have hcell : ∀ k : Nat, k < 6 → ∀ Y, Below W.heap.size W Y → Y.cell? ⟨g, C.length + k, none⟩ = some (.int .i64 (700 + (k : Int))) := fun k hk Y hY => by
    have hv : ((C ++ mks).map (Value.int .i64))[C.length + k]? = some (.int .i64 (700 + (k : Int))) := by
      rw [List.getElem?_map, List.getElem?_append_right (by omega), show C.length + k - C.length = k by omega]
      match k, hk with
      | 0, _ => rfl
      | 1, _ => rfl
      | 2, _ => rfl
      | 3, _ => rfl
      | 4, _ => rfl
      | 5, _ => rfl
    have := h3 _ _ hv
    rw [Nat.zero_add] at this
    exact cell_below hY this
  obtain ⟨q, hq⟩ : ∃ q, W.heap.size = q := ⟨_, rfl⟩
  obtain ⟨n, hn⟩ : ∃ n, C.length = n := ⟨_, rfl⟩
  rw [hq, hn] at hcell
  rw [hn] at h2
  rw [hq, hn]
  have hw : wrap64 ((n : Int) + 6) = (n : Int) + 6 := IntWalk.wrap64_in _ ⟨by omega, by omega⟩
  have HC : Hid _ := hcell
  clear hcell h3 hn
  go_enter Tryz.func41, Tryz.ntmps41
  go_wp2
  go_loopw [6] (fun v6 wr => ∃ i : Nat, i ≤ 6 ∧ v6 = .int .i64 i ∧ Below q W wr) (fun v _ => 6 - (intOf v).toNat)
  case atStart => exact ⟨0, Nat.zero_le _, rfl, Below.refl _ _⟩
  case round =>
    obtain ⟨i, hi, rfl, hp⟩ := hrel
    have HP : Hid (Below q W wr) := hp
    by_cases hlt : i < 6
    · have b1 : (i : Int) < 6 := by omega
      have c := HC.out i hlt wr hp
      have w1 : wrap64 ((n : Int) + (i : Int)) = (n : Int) + (i : Int) := IntWalk.wrap64_in _ ⟨by omega, by omega⟩
      have w2 : wrap64 (700 + (i : Int)) = 700 + (i : Int) := IntWalk.wrap64_in _ ⟨by omega, by omega⟩
      clear hp
      go_wp2
      exact ⟨⟨i + 1, hlt, congrArg (Value.int .i64) (Int.natCast_succ i).symm, HP.out⟩, by show 6 - ((i : Int) + 1).toNat < 6 - ((i : Int)).toNat; omega⟩
    · have b1 : ¬ (i : Int) < 6 := by omega
      clear hp
      go_wp2
      go_ret
      exact ⟨rfl, HP.out⟩
set_option maxRecDepth 100000 in
set_option maxHeartbeats 4000000 in
theorem left_true {W : World} {u v : Value} {p : Pt} (hu : Rmy W u p) (hv : RdP W v p) :
    Calls Tryz.prog 15 #[u, v] W fun e w' => e = .returned (.bool true) ∧ Below W.heap.size W w' := by
  have hur := hu.rd
  have hS := fun Y (hY : Below W.heap.size W Y) => same_true (hur.below hY) (hv.below hY)
  obtain ⟨v0, v1, g, rfl, h0, h1, hl, h2, h3⟩ := hu
  obtain ⟨u0, u1, ul, rfl, g0, g1, gl⟩ := hv
  obtain ⟨e0, k0, rfl, -, -, -⟩ := id g0
  obtain ⟨e1, k1, rfl, -, -, -⟩ := id g1
  obtain ⟨el, kl, rfl, -, -, -⟩ := id gl
  have hst := pb_start W p.nm v0 v1 (.slice (some ⟨g, 0, none⟩) p.ln.length (p.ln.length + 6))
  have hb1 := hst.old
  have hs2 := pb_start (W.alloc (.cells #[.string p.nm, v0, v1, .slice (some ⟨g, 0, none⟩) p.ln.length (p.ln.length + 6)] 26)) p.nm (.slice e0 p.b0.length k0) (.slice e1 p.b1.length k1) (.slice el p.ln.length kl)
  have hst2 := hst.below hs2.old
  have hb2 := hb1.trans (hs2.old.mono hb1.size)
  have hN0 := fun Y (hY : Below W.heap.size W Y) => narrow_true (h0.below hY)
  have hN1 := fun Y (hY : Below W.heap.size W Y) => narrow_true (h1.below hY)
  have hGL := fun Y (hY : Below W.heap.size W Y) => gl.below hY
  have hLC : ∀ j, j < p.ln.length → ∃ u, RdM W u (p.ln.getD j (0, [])).2 ∧ ∀ Y, Below W.heap.size W Y → Y.cell? ⟨g, j * 2 + 1, none⟩ = some u := fun j hj => by
    obtain ⟨u, a, b, c⟩ := h2 j hj
    exact ⟨u, c, fun Y hY => cell_below hY b⟩
  have hMC : ∀ k, k < 6 → ∀ Y, Below W.heap.size W Y → Y.cell? ⟨g, (p.ln.length + k) * 2, none⟩ = some (.int .i64 (800 + (k : Int))) ∧ Y.cell? ⟨g, (p.ln.length + k) * 2 + 1, none⟩ = some (.slice none 0 0) := fun k hk Y hY => ⟨cell_below hY (h3 k hk).1, cell_below hY (h3 k hk).2⟩
  obtain ⟨q, hq⟩ : ∃ q, W.heap.size = q := ⟨_, rfl⟩
  obtain ⟨nm, hnm⟩ : ∃ nm, p.nm = nm := ⟨_, rfl⟩
  obtain ⟨n0, hn0⟩ : ∃ n0, p.b0.length = n0 := ⟨_, rfl⟩
  obtain ⟨n1, hn1⟩ : ∃ n1, p.b1.length = n1 := ⟨_, rfl⟩
  obtain ⟨L, hLn⟩ : ∃ L, p.ln.length = L := ⟨_, rfl⟩
  have hsz : (W.alloc (.cells #[.string p.nm, v0, v1, .slice (some ⟨g, 0, none⟩) p.ln.length (p.ln.length + 6)] 26)).heap.size = q + 1 := by rw [size_alloc, hq]
  rw [hsz] at hs2
  simp only [hq, hnm, hn0, hn1, hLn] at hst2 hs2 hb2 hS hN0 hN1 hGL hLC hMC hl ⊢
  obtain ⟨W1, hW1⟩ : ∃ W1, W.alloc (.cells #[.string nm, v0, v1, .slice (some ⟨g, 0, none⟩) L (L + 6)] 26) = W1 := ⟨_, rfl⟩
  simp only [hW1] at hst2 hs2 hb2
  obtain ⟨W2, hW2⟩ : ∃ W2, W1.alloc (.cells #[.string nm, .slice e0 n0 k0, .slice e1 n1 k1, .slice el L kl] 26) = W2 := ⟨_, rfl⟩
  simp only [hW2] at hst2 hs2 hb2
  have hz1 : W1.heap.size = q + 1 := by rw [← hW1, size_alloc, hq]
  have HS : Hid _ := hS
  have HN0 : Hid _ := hN0
  have HN1 : Hid _ := hN1
  have HGL : Hid _ := hGL
  have HLC : Hid (∀ j, j < L → ∃ u, RdM W u (p.ln.getD j (0, [])).2 ∧ ∀ Y, Below q W Y → Y.cell? ⟨g, j * 2 + 1, none⟩ = some u) := hLC
  have HMC : Hid _ := hMC
  have HP : Hid (PB q W nm v0 v1 (.slice (some ⟨g, 0, none⟩) L (L + 6)) W2) := hst2
  have HQ : Hid (PB (q + 1) W1 nm (.slice e0 n0 k0) (.slice e1 n1 k1) (.slice el L kl) W2) := hs2
  have HL : Hid (L ≤ 2000 ∧ p.ln.length = L) := ⟨hl, hLn⟩
  have HWQ : Hid (W.heap.size = q) := hq
  have c0 := hst2.c0
  have c1 := hst2.c1
  have c2 := hst2.c2
  have c3 := hst2.c3
  have d0 := hs2.c0
  have d1 := hs2.c1
  have d2 := hs2.c2
  have d3 := hs2.c3
  have CS := HS.out W2 hb2
  clear hst hst2 hs2 hb1 hb2 hS hN0 hN1 hGL hLC hMC hl h0 h1 h2 h3 g0 g1 gl hn0 hn1 hLn hnm hsz hur
  go_enter Tryz.func15, Tryz.ntmps15
  go_upto_region 3 with (first
    | (go_at_call 20; refine Calls.mono CS ?_; rintro e w1 ⟨rfl, hb⟩; have HP1 : Hid (PB q W nm v0 v1 (.slice (some ⟨g, 0, none⟩) L (L + 6)) w1) := HP.out.below hb; have HQ1 : Hid (PB (q + 1) W1 nm (.slice e0 n0 k0) (.slice e1 n1 k1) (.slice el L kl) w1) := HQ.out.below hb; clear hb c0 c1 c2 c3 d0 d1 d2 d3 CS; have c1 := HP1.out.c1; have c2 := HP1.out.c2; have d1 := HQ1.out.c1; have d2 := HQ1.out.c2; have CN0 := HN0.out w1 HP1.out.old)
    | (go_at_call 41; refine Calls.mono CN0 ?_; rintro e w2 ⟨rfl, hb⟩; have HP2 : Hid (PB q W nm v0 v1 (.slice (some ⟨g, 0, none⟩) L (L + 6)) w2) := HP1.out.below hb; have HQ2 : Hid (PB (q + 1) W1 nm (.slice e0 n0 k0) (.slice e1 n1 k1) (.slice el L kl) w2) := HQ1.out.below hb; clear hb c1 c2 d1 d2 CN0; have c2 := HP2.out.c2; have d2 := HQ2.out.c2; have CN1 := HN1.out w2 HP2.out.old)
    | (go_at_call 41; refine Calls.mono CN1 ?_; rintro e w3 ⟨rfl, hb⟩; have HP3 : Hid (PB q W nm v0 v1 (.slice (some ⟨g, 0, none⟩) L (L + 6)) w3) := HP2.out.below hb; have HQ3 : Hid (PB (q + 1) W1 nm (.slice e0 n0 k0) (.slice e1 n1 k1) (.slice el L kl) w3) := HQ2.out.below hb; clear hb c2 d2 CN1))
  go_wp2
  go_loopw [5] (fun v5 wr => ∃ i : Nat, i ≤ L ∧ v5 = .int .i64 i ∧ PB q W nm v0 v1 (.slice (some ⟨g, 0, none⟩) L (L + 6)) wr ∧ PB (q + 1) W1 nm (.slice e0 n0 k0) (.slice e1 n1 k1) (.slice el L kl) wr) (fun v _ => L - (intOf v).toNat)
  case atStart => exact ⟨0, Nat.zero_le _, rfl, HP3.out, HQ3.out⟩
  case round =>
    obtain ⟨i, hi, rfl, hp, hqq⟩ := hrel
    have HPR : Hid (PB q W nm v0 v1 (.slice (some ⟨g, 0, none⟩) L (L + 6)) wr) := hp
    have HQR : Hid (PB (q + 1) W1 nm (.slice e0 n0 k0) (.slice e1 n1 k1) (.slice el L kl) wr) := hqq
    have c3 := hp.c3
    have d3 := hqq.c3
    by_cases hlt : i < L
    · have b1 : (i : Int) < (L : Int) := by omega
      obtain ⟨b', o', a2', n2', c2', rfl, hc', hn', hn2'⟩ := (HGL.out wr hp.old).at hlt
      obtain ⟨u, hM, hcu⟩ := HLC.out i hlt
      obtain ⟨gu, rfl, hMl, hMr⟩ := id hM
      have HNW : Hid (∀ Y, Below q W Y → _) := fun Y hY => narrow_true (hM.below (by rw [HWQ.out]; exact hY))
      have HC' : Hid _ := hc'
      have HCU : Hid _ := hcu
      rw [← hn2'] at HNW HCU
      have bi : (i : Int) < (L : Int) + 6 := by omega
      clear hc' hn' hp hqq hn2' hM hMl hMr hcu
      go_wp2
      refine Go.Pin.wp_region_cls (fun Y => Below wr.heap.size wr Y) (by kernel_rfl) (by kernel_rfl) ((Below.refl _ _).drew) ?_
      intro Sq fq hNq hRq hSq
      have z0 := fun x => (HPR.out.below (hRq x)).c3
      have z1 := fun x => (HQR.out.below (hRq x)).c3
      have k1 := fun x => HCU.out _ (HPR.out.below (hRq x)).old
      have l1 := fun x => (HC'.out _ (hRq x)).2
      have CF := fun x => HNW.out (fq x) (HPR.out.below (hRq x)).old
      repeat (go_big_quiet_step (exact (CF _).mono (fun e w' h => ⟨h.1, hSq _ ((hRq _).trans (h.2.mono (hRq _).size))⟩)))
      refine wpQuiet_nil ?_
      intro _ hw'
      obtain ⟨xq, hw''⟩ := hw'
      subst hw''
      have HYq := hRq xq
      generalize fq xq = Y at HYq ⊢
      clear hRq hSq hNq xq fq Sq z0 z1 k1 l1 CF c3 d3
      have HY : Hid (Below wr.heap.size wr Y) := HYq
      clear HYq
      go_wp2
      exact ⟨⟨i + 1, hlt, congrArg (Value.int .i64) (wrapS hlt (by have := HL.out; omega)), HPR.out.below HY.out, HQR.out.below HY.out⟩, measS hlt (by have := HL.out; omega)⟩
    · have b1 : ¬ (i : Int) < (L : Int) := by omega
      have hw : wrap64 ((L : Int) + 6) = (L : Int) + 6 := IntWalk.wrap64_in _ ⟨by have := HL.out; omega, by have := HL.out; omega⟩
      have bL : (0 : Int) ≤ (L : Int) + 6 := by omega
      clear hp hqq
      go_wp2
      go_loopw [7] (fun v7 wy => ∃ k : Nat, k ≤ 6 ∧ v7 = .int .i64 k ∧ wy = wr) (fun v _ => 6 - (intOf v).toNat)
      case atStart => exact ⟨0, Nat.zero_le _, rfl, rfl⟩
      case round =>
        obtain ⟨k, hk, rfl, rfl⟩ := hrel
        by_cases hlt6 : k < 6
        · have b6 : (k : Int) < 6 := by omega
          obtain ⟨x0, x1⟩ := HMC.out k hlt6 _ HPR.out.old
          have w1 : wrap64 ((L : Int) + (k : Int)) = (L : Int) + (k : Int) := IntWalk.wrap64_in _ ⟨by have := HL.out; omega, by have := HL.out; omega⟩
          have w2 : wrap64 (800 + (k : Int)) = 800 + (k : Int) := IntWalk.wrap64_in _ ⟨by omega, by omega⟩
          have b7 : (L : Int) + (k : Int) < (L : Int) + 6 := by omega
          go_wp2
          exact ⟨⟨k + 1, hlt6, congrArg (Value.int .i64) (Int.natCast_succ k).symm, trivial⟩, by show 6 - ((k : Int) + 1).toNat < 6 - ((k : Int)).toNat; omega⟩
        · have b6 : ¬ (k : Int) < 6 := by omega
          go_wp2
          go_ret
          exact ⟨rfl, HPR.out.old⟩
end Go.Proofs.YtmlcgcmoioekpaaGreatDoor
namespace Go.Proofs.YtmlcgcmoioekpaaGreatDoor
set_option linter.unusedSimpArgs false
set_option linter.unusedVariables false
open Go.ChangeShapes Go.WideShapes Go.ChangeAt Go.RowKit Go.Pin Go.Pat Go.Deep
def IsC (c : Int) : Prop := c = 0 ∨ c = 1 ∨ c = 8 ∨ c = 9 ∨ c = 10 ∨ c = 11 ∨ c = 12
set_option maxRecDepth 100000 in
set_option maxHeartbeats 4000000 in
theorem code_any {ea : Int → Addr} {W : World} (h : Errs ea W) (c : Int) (hc : IsC c) :
    Calls Tryz.prog 12 #[EV ea c] W fun e w' => e = .returned (.int .i64 c) ∧ w' = W := by
  have q := fun (c d : Int) (hc : c ∈ ecs) (hd : d ∈ ecs) => eq_err h hc hd
  have k1 := (h.1 1 (by decide)).1
  have k8 := (h.1 8 (by decide)).1
  have k9 := (h.1 9 (by decide)).1
  have k10 := (h.1 10 (by decide)).1
  have k11 := (h.1 11 (by decide)).1
  have k12 := (h.1 12 (by decide)).1
  simp only [eblk] at k1 k8 k9 k10 k11 k12
  rcases hc with rfl | rfl | rfl | rfl | rfl | rfl | rfl
  · simp only [EV, if_true]
    clear q
    go_enter Tryz.func12, Tryz.ntmps12
    go_wp2
    go_ret
    exact ⟨rfl, rfl⟩
  · simp only [EV, show ¬ ((1 : Int) = 0) by decide, if_false]
    have q1 := q 1 1 (by decide) (by decide)
    clear q
    go_enter Tryz.func12, Tryz.ntmps12
    go_wp2
    go_ret
    exact ⟨rfl, rfl⟩
  · simp only [EV, show ¬ ((8 : Int) = 0) by decide, if_false]
    have q1 := q 8 1 (by decide) (by decide)
    have q8 := q 8 8 (by decide) (by decide)
    clear q
    go_enter Tryz.func12, Tryz.ntmps12
    go_wp2
    go_ret
    exact ⟨rfl, rfl⟩
  · simp only [EV, show ¬ ((9 : Int) = 0) by decide, if_false]
    have q1 := q 9 1 (by decide) (by decide)
    have q8 := q 9 8 (by decide) (by decide)
    have q9 := q 9 9 (by decide) (by decide)
    clear q
    go_enter Tryz.func12, Tryz.ntmps12
    go_wp2
    go_ret
    exact ⟨rfl, rfl⟩
  · simp only [EV, show ¬ ((10 : Int) = 0) by decide, if_false]
    have q1 := q 10 1 (by decide) (by decide)
    have q8 := q 10 8 (by decide) (by decide)
    have q9 := q 10 9 (by decide) (by decide)
    have q10 := q 10 10 (by decide) (by decide)
    clear q
    go_enter Tryz.func12, Tryz.ntmps12
    go_wp2
    go_ret
    exact ⟨rfl, rfl⟩
  · simp only [EV, show ¬ ((11 : Int) = 0) by decide, if_false]
    have q1 := q 11 1 (by decide) (by decide)
    have q8 := q 11 8 (by decide) (by decide)
    have q9 := q 11 9 (by decide) (by decide)
    have q10 := q 11 10 (by decide) (by decide)
    have q11 := q 11 11 (by decide) (by decide)
    clear q
    go_enter Tryz.func12, Tryz.ntmps12
    go_wp2
    go_ret
    exact ⟨rfl, rfl⟩
  · simp only [EV, show ¬ ((12 : Int) = 0) by decide, if_false]
    have q1 := q 12 1 (by decide) (by decide)
    have q8 := q 12 8 (by decide) (by decide)
    have q9 := q 12 9 (by decide) (by decide)
    have q10 := q 12 10 (by decide) (by decide)
    have q11 := q 12 11 (by decide) (by decide)
    have q12 := q 12 12 (by decide) (by decide)
    clear q
    go_enter Tryz.func12, Tryz.ntmps12
    go_wp2
    go_ret
    exact ⟨rfl, rfl⟩
end Go.Proofs.YtmlcgcmoioekpaaGreatDoor
/- what the program's functions are held to, and the laws' walks over that -/
namespace Go.Proofs.YtmlcgcmoioekpaaGreatDoor
set_option linter.unusedSimpArgs false
set_option linter.unusedVariables false
set_option maxRecDepth 100000
open Go.ChangeShapes Go.WideShapes Go.ChangeAt Go.RowKit Go.Pin Go.Pat Go.Deep
def ChkC (ea : Int → Addr) : Prop := ∀ (v : Value) (p : Pt) (W : World), Errs ea W → RdP W v p →
  Calls Tryz.prog 13 #[v] W fun e w' => e = .returned (EV ea (chk p)) ∧ Below W.heap.size W w'
def PrtC (ea : Int → Addr) : Prop := ∀ (v : Value) (p : Pt) (W : World), Errs ea W → RdP W v p → p.nm.size ≤ 140737488355328 →
  Calls Tryz.prog 16 #[v] W fun e w' => e = .returned (.tuple #[.string (prn p).1, EV ea (prn p).2]) ∧ Below W.heap.size W w'
def PrsC (ea : Int → Addr) : Prop := ∀ (t : ByteArray) (W : World), Errs ea W → t.size ≤ 140737488355328 →
  Calls Tryz.prog 18 #[.string t] W fun e w' => ∃ v, e = .returned (.tuple #[v, EV ea (prs t).2]) ∧ RdP w' v (prs t).1 ∧ Below W.heap.size W w'
def ModC (ea : Int → Addr) : Prop := ∀ (v wv : Value) (p : Pt) (ws : List ByteArray) (W : World), Errs ea W → RdP W v p → RdS W wv ws → p.nm.size ≤ 100000 → ws.length ≤ 200 → (∀ x ∈ ws, x.size ≤ 140737488355328) → (∀ a n c, wv = .slice a n c → n ≤ c) →
  Calls Tryz.prog 27 #[v, wv] W fun e w' => ∃ u, e = .returned (.tuple #[u, EV ea (mdf p ws).2]) ∧ RdP w' u (mdf p ws).1 ∧ Below W.heap.size W w'
def KnC (ea : Int → Addr) : Prop := ∀ (W : World), Errs ea W → Calls Tryz.prog 10 #[] W fun e w' => e = .returned (.bool true) ∧ Below W.heap.size W w'
theorem RdN.sl {w : World} {v : Value} {C : List Int} (h : RdN w v C) : ∃ a cap, v = .slice a C.length cap := by
  obtain ⟨a, c, e, _⟩ := h
  exact ⟨a, c, e⟩
theorem RdL.sl {w : World} {v : Value} {C : List Ln} (h : RdL w v C) : ∃ a cap, v = .slice a C.length cap := by
  obtain ⟨a, c, e, _⟩ := h
  exact ⟨a, c, e⟩
/-- a pattern's value, by its slices -/
theorem RdP.sl {w : World} {v : Value} {p : Pt} (h : RdP w v p) : ∃ a0 k0 a1 k1 al kl, v = .agg #[.string p.nm, .slice a0 p.b0.length k0, .slice a1 p.b1.length k1, .slice al p.ln.length kl] := by
  obtain ⟨v0, v1, vl, rfl, h0, h1, hl⟩ := h
  obtain ⟨a0, k0, rfl⟩ := h0.sl
  obtain ⟨a1, k1, rfl⟩ := h1.sl
  obtain ⟨al, kl, rfl⟩ := hl.sl
  exact ⟨a0, k0, a1, k1, al, kl, rfl⟩
theorem chk_isC (p : Pt) : IsC (chk p) := by
  have htk : ∀ (x : Sn) (s : Nat) (t : Int), (tk x s t).2 = 0 ∨ (tk x s t).2 = 10 ∨ (tk x s t).2 = 11 ∨ (tk x s t).2 = 12 := fun x s t => by
    unfold tk
    repeat' split
    all_goals simp
  have htks : ∀ (s : Nat) (l : List Int) (x : Sn), (tks s x l).2 = 0 ∨ (tks s x l).2 = 10 ∨ (tks s x l).2 = 11 ∨ (tks s x l).2 = 12 := fun s l => by
    induction l with
    | nil => intro x; exact .inl rfl
    | cons t r ih =>
      intro x
      simp only [tks]
      split
      · exact ih _
      · exact htk x s t
  have hlns : ∀ (L : List Ln) (x : Sn), (lns x L).2 = 0 ∨ (lns x L).2 = 10 ∨ (lns x L).2 = 11 ∨ (lns x L).2 = 12 := fun L => by
    induction L with
    | nil => intro x; exact .inl rfl
    | cons t r ih =>
      obtain ⟨f, ts⟩ := t
      intro x
      simp only [lns]
      split
      · exact htks _ _ _
      · split
        · exact ih _
        · exact .inr (.inr (.inr rfl))
  unfold IsC chk
  have := hlns p.ln (beg p)
  repeat' split
  all_goals omega
end Go.Proofs.YtmlcgcmoioekpaaGreatDoor
namespace Go.Proofs.YtmlcgcmoioekpaaGreatDoor
set_option linter.unusedSimpArgs false
set_option linter.unusedVariables false
open Go.ChangeShapes Go.WideShapes Go.ChangeAt Go.RowKit Go.Pin Go.Pat Go.Deep
theorem pmodify_any {ea : Int → Addr} : ModC ea := fun v wv p ws W hE hR hw hnm hws hwz hcap => (modify_any' v wv p ws W hE hR hw hnm hws hwz hcap).mono fun e w' ⟨hb, v0, v1, vl, he, hf⟩ => ⟨_, he, hf.rd, hb⟩
theorem pknown_any {ea : Int → Addr} : KnC ea := fun W hE => known_any W hE
theorem ptext_any {ea : Int → Addr} : PrsC ea := pparse_any
theorem pwrite_any {ea : Int → Addr} : PrtC ea := pprint_any
theorem pvalid_any {ea : Int → Addr} : ChkC ea := pcheck_any
end Go.Proofs.YtmlcgcmoioekpaaGreatDoor
namespace Go.Proofs.YtmlcgcmoioekpaaGreatDoor
set_option linter.unusedSimpArgs false
set_option linter.unusedVariables false
open Go.ChangeShapes Go.WideShapes Go.ChangeAt Go.RowKit Go.Pin Go.Pat Go.Deep
/-- a text that came in -/
theorem open_text {H : Type} {enc : TypeId × Value → H} {W : World} {v : Value} {d : DataW H} {ps : List MemPlace} (hval : ∃ s, v = .string s)
    (h : DataW.Trod enc Tryz.prog W 0 (fun _ => true) true 9 v d ps) (hs : ∀ k ∈ d.weights Tryz.prog 9, k ≤ reachBytes) : ∃ s : ByteArray, v = .string s ∧ s.size ≤ 140737488355328 := by
  obtain ⟨s, rfl⟩ := hval
  obtain ⟨fuel, hf⟩ := h
  obtain ⟨s', h1, h2, _⟩ := DataW.trod_string Tryz.underlying9 hf
  simp only [Value.cells, List.cons.injEq, and_true, Value.string.injEq] at h1
  subst h1
  simp only [Prod.mk.injEq] at h2
  refine ⟨s, rfl, ?_⟩
  have := hs s.data.toList.length (by rw [h2.1]; simp [DataW.weights])
  unfold reachBytes at this
  have e : s.data.toList.length = s.size := by simp
  omega
theorem bytes_string : Tryz.prog.bytesOf 9 = 16 := by kernel_rfl
/-- words that came in -/
theorem open_words {H : Type} {enc : TypeId × Value → H} {W : World} {v : Value} {d : DataW H} {ps : List MemPlace} (hv : ∃ a n c, v = .slice a n c)
    (h : DataW.Trod enc Tryz.prog W 0 (fun _ => true) true 53 v d ps) (hs : ∀ k ∈ d.weights Tryz.prog 53, k ≤ reachBytes) :
    ∃ ws : List ByteArray, RdS W v ws ∧ (∀ x ∈ ws, x.size ≤ 140737488355328) ∧ (∀ a n c, v = .slice a n c → n ≤ c) ∧ ws.length ≤ 140737488355328 := by
  obtain ⟨a, n, c, rfl⟩ := hv
  obtain ⟨fuel, hf⟩ := h
  rcases open_strs Tryz.underlying53 Tryz.underlying9 (by kernel_rfl) hf with ⟨hcs, _⟩ | ⟨y, len, cap, m, Sx, hcs, _, hl, hm, hmm, hx, hc⟩
  · simp only [Value.cells, List.cons.injEq, and_true, Value.slice.injEq] at hcs
    obtain ⟨rfl, rfl, rfl⟩ := hcs
    exact ⟨[], ⟨none, 0, rfl, fun j hj => nomatch hj⟩, (fun x hx => nomatch hx), fun a n c h => by injection h with h1 h2 h3; omega, by simp⟩
  · simp only [Value.cells, List.cons.injEq, and_true, Value.slice.injEq] at hcs
    obtain ⟨rfl, rfl, rfl⟩ := hcs
    simp only [Prod.mk.injEq] at hx
    have hlm : n ≤ m := by rw [hmm]; split <;> omega
    refine ⟨(List.range n).map Sx, ⟨some y, c, by simp, fun j hj => ?_⟩, fun x hx' => ?_, fun a n c h => by injection h with h1 h2 h3; omega, ?_⟩
    · have hj' : j < n := by simpa using hj
      have h0 := (hc 0 (by omega)).1
      obtain ⟨b, o, rfl⟩ := add_spot h0
      have h1 := (hc j (by omega)).1
      rw [add_mid] at h1
      refine ⟨b, o, rfl, ?_⟩
      rw [h1]
      simp [List.getD, hj']
    · obtain ⟨i, hi, rfl⟩ := List.mem_map.1 hx'
      have := hs (Sx i).data.toList.length (by
        rw [hx.1]
        simp only [DataW.weights, Tryz.underlying53]
        exact List.mem_cons_of_mem _ (List.mem_append_left _ (weightsAll_mem (List.mem_map.2 ⟨i, hi, rfl⟩) (by simp [DataW.weights]))))
      unfold reachBytes at this
      have e : (Sx i).data.toList.length = (Sx i).size := by simp
      omega
    · have := hs ((n + (m - n)) * 16) (by
        rw [hx.1]
        simp only [DataW.weights, Tryz.underlying53]
        refine List.mem_cons.2 (.inl ?_)
        rw [bytes_string]
        simp)
      unfold reachBytes at this
      simp
      omega
end Go.Proofs.YtmlcgcmoioekpaaGreatDoor
namespace Go.Proofs.YtmlcgcmoioekpaaGreatDoor
set_option linter.unusedSimpArgs false
set_option linter.unusedVariables false
set_option maxRecDepth 100000
open Go.ChangeShapes Go.WideShapes Go.ChangeAt Go.RowKit Go.Pin Go.Pat Go.Deep
theorem Rmy.sl {w : World} {v : Value} {p : Pt} (h : Rmy w v p) : ∃ a0 k0 a1 k1 al kl, v = .agg #[.string p.nm, .slice a0 p.b0.length k0, .slice a1 p.b1.length k1, .slice al p.ln.length kl] := h.rd.sl
theorem roomy_rm {v : Value} {p : Pt} {W : World} (hR : RdP W v p) (hs : Sml p) : Calls Tryz.prog 11 #[v] W fun e w' => ∃ u, e = .returned u ∧ Rmy w' u p ∧ Below W.heap.size W w' :=
  (roomy_any v p W hR hs).mono fun e w' k => k.rmy hs
end Go.Proofs.YtmlcgcmoioekpaaGreatDoor
namespace Go.Proofs.YtmlcgcmoioekpaaGreatDoor
set_option linter.unusedSimpArgs false
set_option linter.unusedVariables false
set_option maxRecDepth 100000
open Go.ChangeShapes Go.WideShapes Go.ChangeAt Go.RowKit Go.Pin Go.Pat Go.Deep
set_option maxRecDepth 100000 in
set_option maxHeartbeats 4000000 in
theorem checks_walk {ea : Int → Addr} (v : Value) (p : Pt) (W : World) (hE : Errs ea W) (hR : RdP W v p) (hF : ChkC ea) (hK : KnC ea) :
    Calls Tryz.prog 3 #[v] W fun e w' => e = .returned (.bool true) ∧ Below W.heap.size W w' := by
  obtain ⟨a0, p0, a1, p1, al, cl, rfl⟩ := hR.sl
  have hst := pb_start W p.nm (.slice a0 p.b0.length p0) (.slice a1 p.b1.length p1) (.slice al p.ln.length cl)
  obtain ⟨q, hq⟩ : ∃ q, W.heap.size = q := ⟨_, rfl⟩
  obtain ⟨W1, hW1⟩ : ∃ W1, W.alloc (.cells #[.string p.nm, .slice a0 p.b0.length p0, .slice a1 p.b1.length p1, .slice al p.ln.length cl] 26) = W1 := ⟨_, rfl⟩
  simp only [hq, hW1] at hst
  have HP1 : Hid (PB q W p.nm (.slice a0 p.b0.length p0) (.slice a1 p.b1.length p1) (.slice al p.ln.length cl) W1) := hst
  have HR : Hid (∀ Y, Below q W Y → RdP Y (.agg #[.string p.nm, .slice a0 p.b0.length p0, .slice a1 p.b1.length p1, .slice al p.ln.length cl]) p) := fun Y hY => hR.below (by rw [hq]; exact hY)
  have HE : Hid (∀ Y, Below q W Y → Errs ea Y) := fun Y hY => hE.below (by rw [hq]; exact hY)
  have HK : Hid (KnC ea) := hK
  have HF : Hid (ChkC ea) := hF
  have HWQ : Hid (W.heap.size = q) := hq
  have d0 := hst.c0
  have d1 := hst.c1
  have d2 := hst.c2
  have d3 := hst.c3
  have CM := much_any _ p W1 (HR.out W1 hst.old)
  obtain ⟨q1, hq1⟩ : ∃ q1, W1.heap.size = q1 := ⟨_, rfl⟩
  rw [hq1] at CM
  rw [hq]
  clear hst hF hE hK hR
  go_enter Tryz.func3, Tryz.ntmps3
  go_upto_if 5 with (go_at_call 9; refine CM.mono ?_; rintro e w2 ⟨b, rfl, hs, hb⟩; have HS : Hid (b = false → Sml p) := hs; have HP2 : Hid (PB q W p.nm (.slice a0 p.b0.length p0) (.slice a1 p.b1.length p1) (.slice al p.ln.length cl) w2) := HP1.out.below (by rw [hq1]; exact hb); clear hs hb CM d0 d1 d2 d3)
  rcases b with _ | _
  case true =>
    have CKN := HK.out w2 (HE.out w2 HP2.out.old)
    go_wp2_with (go_at_call 10; refine CKN.mono ?_; rintro e w6 ⟨rfl, hb⟩; have HB6 : Hid (Below q W w6) := HP2.out.old.trans (hb.mono (by have := HP2.out.old.size; have := HWQ.out; omega)); clear hb CKN)
    go_ret
    exact ⟨rfl, HB6.out⟩
  have hs := HS.out rfl
  have d0 := HP2.out.c0
  have d1 := HP2.out.c1
  have d2 := HP2.out.c2
  have d3 := HP2.out.c3
  have CR := roomy_rm (HR.out w2 HP2.out.old) hs
  obtain ⟨q2, hq2⟩ : ∃ q2, w2.heap.size = q2 := ⟨_, rfl⟩
  rw [hq2] at CR
  have HSM : Hid (Sml p) := hs
  clear hs
  go_upto_region 4 with (go_at_call 11; refine CR.mono ?_; rintro e w3 ⟨u, rfl, hr, hb⟩; obtain ⟨c0, l0, c1, l1, cv, ll, rfl⟩ := hr.sl; have HR3 : Hid (Rmy w3 _ p) := hr; have HP3 : Hid (PB q W p.nm (.slice a0 p.b0.length p0) (.slice a1 p.b1.length p1) (.slice al p.ln.length cl) w3) := HP2.out.below (by rw [hq2]; exact hb); clear hr hb CR d0 d1 d2 d3)
  have hpb := pb_start w3 p.nm (.slice c0 p.b0.length l0) (.slice c1 p.b1.length l1) (.slice cv p.ln.length ll)
  obtain ⟨q3, hq3⟩ : ∃ q3, w3.heap.size = q3 := ⟨_, rfl⟩
  obtain ⟨W4, hW4⟩ : ∃ W4, w3.alloc (.cells #[.string p.nm, .slice c0 p.b0.length l0, .slice c1 p.b1.length l1, .slice cv p.ln.length ll] 26) = W4 := ⟨_, rfl⟩
  simp only [hq3, hW4] at hpb ⊢
  have HQ4 : Hid (PB q3 w3 p.nm (.slice c0 p.b0.length l0) (.slice c1 p.b1.length l1) (.slice cv p.ln.length ll) W4) := hpb
  have HP4 : Hid (PB q W p.nm (.slice a0 p.b0.length p0) (.slice a1 p.b1.length p1) (.slice al p.ln.length cl) W4) := HP3.out.below (by rw [hq3]; exact hpb.old)
  have HRM : Hid (∀ Y, Below q3 w3 Y → Rmy Y (.agg #[.string p.nm, .slice c0 p.b0.length l0, .slice c1 p.b1.length l1, .slice cv p.ln.length ll]) p) := fun Y hY => HR3.out.below (by rw [hq3]; exact hY)
  have HCH : Hid (∀ Y, Below W4.heap.size W4 Y → _) := fun Y hY => HF.out _ p Y (HE.out Y (HP4.out.below hY).old) (HRM.out Y (HQ4.out.below hY).old).rd
  have HCR : Hid (∀ Y, Below W4.heap.size W4 Y → _) := fun Y hY => check_any _ p Y (HR.out Y (HP4.out.below hY).old)
  have HCC : Hid (∀ Y, Below W4.heap.size W4 Y → _) := fun Y hY => code_any (HE.out Y (HP4.out.below hY).old) (chk p) (chk_isC p)
  have HCL : Hid (∀ Y, Below W4.heap.size W4 Y → _) := fun Y hY => left_true (HRM.out Y (HQ4.out.below hY).old) (HR.out Y (HP4.out.below hY).old)
  have HCK : Hid (∀ Y, Below W4.heap.size W4 Y → _) := fun Y hY => HK.out Y (HE.out Y (HP4.out.below hY).old)
  obtain ⟨c, hc⟩ : ∃ c, chk p = c := ⟨_, rfl⟩
  obtain ⟨ev, hev⟩ : ∃ ev, EV ea c = ev := ⟨_, rfl⟩
  simp only [hc, hev] at HCH HCR HCC
  have hee : (c == c) = true := by simp
  clear hpb hW4 hq3 hc hev
  refine Go.Pin.wp_region_cls (fun Y => Below W4.heap.size W4 Y) (by kernel_rfl) (by kernel_rfl) ((Below.refl _ _).drew) ?_
  intro Sq fq hNq hRq hSq
  have z0 := fun x => (HP4.out.below (hRq x)).c0
  have z1 := fun x => (HP4.out.below (hRq x)).c1
  have z2 := fun x => (HP4.out.below (hRq x)).c2
  have z3 := fun x => (HP4.out.below (hRq x)).c3
  have y0 := fun x => (HQ4.out.below (hRq x)).c0
  have y1 := fun x => (HQ4.out.below (hRq x)).c1
  have y2 := fun x => (HQ4.out.below (hRq x)).c2
  have y3 := fun x => (HQ4.out.below (hRq x)).c3
  have C1 := fun x => HCH.out (fq x) (hRq x)
  have C2 := fun x => HCR.out (fq x) (hRq x)
  have C3 := fun x => HCC.out (fq x) (hRq x)
  have C4 := fun x => HCL.out (fq x) (hRq x)
  have C5 := fun x => HCK.out (fq x) (hRq x)
  repeat (go_big_quiet_step (first
      | exact (C1 _).mono (fun e w' h => ⟨h.1, hSq _ ((hRq _).trans (h.2.mono (hRq _).size))⟩)
      | exact (C3 _).mono (fun e w' h => ⟨h.1, hSq _ (by rw [h.2]; exact hRq _)⟩)
      | exact (C2 _).mono (fun e w' h => ⟨h.1, hSq _ ((hRq _).trans (h.2.mono (hRq _).size))⟩)
      | exact (C4 _).mono (fun e w' h => ⟨h.1, hSq _ ((hRq _).trans (h.2.mono (hRq _).size))⟩)
      | exact (C5 _).mono (fun e w' h => ⟨h.1, hSq _ ((hRq _).trans (h.2.mono (hRq _).size))⟩)))
  refine wpQuiet_nil ?_
  intro _ hw'
  obtain ⟨xq, hw''⟩ := hw'
  subst hw''
  have HYq := hRq xq
  generalize fq xq = Y at HYq ⊢
  clear hRq hSq hNq xq fq Sq z0 z1 z2 z3 y0 y1 y2 y3 C1 C2 C3 C4 C5
  have HY : Hid (Below q W Y) := (HP4.out.below HYq).old
  clear HYq
  go_wp2
  go_ret
  exact ⟨rfl, HY.out⟩
end Go.Proofs.YtmlcgcmoioekpaaGreatDoor
