import Derived.Test.YtjhleocpipmklaaDoorMjat
namespace Go.Proofs.YtjhleocpipmklaaDoor
set_option linter.unusedSimpArgs false
set_option linter.unusedVariables false
open Go.ChangeShapes Go.WideShapes Go.ChangeAt Go.RowKit Go.Pin Go.Pat Go.Deep
section
variable {p : Pt} {t : Nat} {nm : ByteArray} {g0 g1 : Nat} {B : List Nat} {gl cl : Nat} {TV : Value} {w w' : World}
theorem TwP.below (h : TwP p t nm g0 g1 B gl cl TV w) (hb : Below w.heap.size w w') : TwP p t nm g0 g1 B gl cl TV w' :=
  ⟨(hb.block _ (Array.getElem?_eq_some_iff.1 h.1).1).trans h.1, fun e he => (h.2.1 e he).below hb, h.2.2.1, h.2.2.2.1, owns_below hb h.2.2.2.2.1, owns_below hb h.2.2.2.2.2⟩
theorem lcw_at (l : List (Int × Value)) : ∀ (j : Nat), j < l.length → (lcw l)[j * 2]? = some (.int .i64 (l.getD j (0, undef)).1) ∧ (lcw l)[j * 2 + 1]? = some (l.getD j (0, undef)).2 := by
  induction l with
  | nil => intro j hj; simp at hj
  | cons g r ih =>
    intro j hj
    cases j with
    | zero => simp [lcw]
    | succ j =>
      have := ih j (by simpa using hj)
      have e : lcw (g :: r) = .int .i64 g.1 :: g.2 :: lcw r := by simp [lcw]
      rw [e, show (j + 1) * 2 = j * 2 + 1 + 1 by omega]
      simpa using this
theorem TwP.line (h : TwP p t nm g0 g1 B gl cl TV w) {i : Nat} (hi : i < p.ln.length) : w.cell? ⟨gl, i * 2, none⟩ = some (.int .i64 (p.ln.getD i (0, [])).1) ∧ w.cell? ⟨gl, i * 2 + 1, none⟩ = some (tkv (B.getD i 0) (p.ln.getD i (0, [])).2) := by
  have hB := h.2.2.2.1
  have hc := (own_cell h.2.2.2.2.1).2
  have hl : (lfw p.ln B ++ [((71 : Int), Value.slice none 0 0), (72, .slice none 0 0)]).length = p.ln.length + 2 := by simp [lfw, hB]
  have h1 := lcw_at (lfw p.ln B ++ [(71, .slice none 0 0), (72, .slice none 0 0)]) i (by omega)
  have hiB : i < B.length := by omega
  have hg : (lfw p.ln B ++ [((71 : Int), Value.slice none 0 0), (72, .slice none 0 0)]).getD i (0, undef) = ((p.ln.getD i (0, [])).1, tkv (B.getD i 0) (p.ln.getD i (0, [])).2) := by
    simp [List.getD, lfw, List.getElem?_append, hB, hi, hiB]
  rw [hg] at h1
  obtain ⟨g, e, _, c0⟩ := hc _ _ h1.1
  obtain ⟨g', e', _, c1⟩ := hc _ _ h1.2
  injection e with e
  injection e with e
  injection e' with e'
  injection e' with e'
  subst e e'
  exact ⟨c0, c1⟩
theorem TwP.ends (h : TwP p t nm g0 g1 B gl cl TV w) : w.cell? ⟨gl, p.ln.length * 2, none⟩ = some (.int .i64 71) ∧ w.cell? ⟨gl, p.ln.length * 2 + 1, none⟩ = some (.slice none 0 0) ∧ w.cell? ⟨gl, (p.ln.length + 1) * 2, none⟩ = some (.int .i64 72) := by
  have hB := h.2.2.2.1
  have hc := (own_cell h.2.2.2.2.1).2
  have hl : (lfw p.ln B).length = p.ln.length := by simp [lfw, hB]
  have h1 := lcw_at (lfw p.ln B ++ [(71, .slice none 0 0), (72, .slice none 0 0)]) p.ln.length (by simp [hl])
  have h2 := lcw_at (lfw p.ln B ++ [(71, .slice none 0 0), (72, .slice none 0 0)]) (p.ln.length + 1) (by simp [hl])
  have e1 : (lfw p.ln B ++ [((71 : Int), Value.slice none 0 0), (72, .slice none 0 0)]).getD p.ln.length (0, undef) = (71, .slice none 0 0) := by simp [List.getD, List.getElem?_append, hl]
  have e2 : (lfw p.ln B ++ [((71 : Int), Value.slice none 0 0), (72, .slice none 0 0)]).getD (p.ln.length + 1) (0, undef) = (72, .slice none 0 0) := by simp [List.getD, List.getElem?_append, hl]
  rw [e1] at h1
  rw [e2] at h2
  obtain ⟨g, e, _, c0⟩ := hc _ _ h1.1
  obtain ⟨g', e', _, c1⟩ := hc _ _ h1.2
  obtain ⟨g'', e'', _, c2⟩ := hc _ _ h2.1
  injection e with e
  injection e with e
  injection e' with e'
  injection e' with e'
  injection e'' with e''
  injection e'' with e''
  subst e e' e''
  exact ⟨c0, c1, c2⟩
theorem TwP.toks (h : TwP p t nm g0 g1 B gl cl TV w) : ∃ at_ ct, TV = .slice at_ p.ln.length ct ∧ ∀ i, i < p.ln.length → ∃ gt, at_ = some ⟨gt, 0, none⟩ ∧ w.cell? ⟨gt, i, none⟩ = some (whv (B.getD i 0) (p.ln.getD i (0, [])).2) := by
  have ho := h.2.2.2.2.2
  have hB := h.2.2.2.1
  obtain ⟨a, c, e⟩ := own_slice' ho
  refine ⟨a, c, e, fun i hi => ?_⟩
  rw [e] at ho
  have hiB : i < B.length := by omega
  obtain ⟨g, e1, _, hc⟩ := (own_cell ho).2 i (whv (B.getD i 0) (p.ln.getD i (0, [])).2) (by simp [twv, List.getD, hi, hiB, List.getElem?_zipWith])
  exact ⟨g, e1, hc⟩
theorem TwP.rw (h : TwP p t nm g0 g1 B gl cl TV w) {i : Nat} (hi : i < p.ln.length) : RwB (B.getD i 0) (rm (p.ln.getD i (0, [])).2) w := by
  have hB := h.2.2.2.1
  have hiB : i < B.length := by omega
  refine h.2.1 (B.getD i 0, (p.ln.getD i (0, [])).2) (List.mem_append_right _ ?_)
  have : (lmw p.ln B)[i]? = some (B.getD i 0, (p.ln.getD i (0, [])).2) := by simp [lmw, List.getD, hi, hiB, List.getElem?_zipWith]
  exact List.mem_of_getElem? this
theorem TwP.c (h : TwP p t nm g0 g1 B gl cl TV w) : w.cell? ⟨t, 4, none⟩ = some (whv g0 p.b0) ∧ w.cell? ⟨t, 5, none⟩ = some (whv g1 p.b1) ∧ w.cell? ⟨t, 6, none⟩ = some (.slice (some ⟨gl, 0, none⟩) (p.ln.length + 2) cl) ∧ w.cell? ⟨t, 7, none⟩ = some TV :=
  ⟨by rw [cell_of_row _ _ _ _ _ _ h.1]; rfl, by rw [cell_of_row _ _ _ _ _ _ h.1]; rfl, by rw [cell_of_row _ _ _ _ _ _ h.1]; rfl, by rw [cell_of_row _ _ _ _ _ _ h.1]; rfl⟩
end
set_option maxRecDepth 100000 in
set_option maxHeartbeats 8000000 in
theorem untouched_true {W : World} {p : Pt} {t : Nat} {nm : ByteArray} {g0 g1 : Nat} {B : List Nat} {gl cl : Nat} {TV v : Value} (h : TwP p t nm g0 g1 B gl cl TV W) (hv : RdP W v p) (hs : lng p = false) :
    Calls Tryd.prog 15 #[.pointer (some ⟨t, 0, none⟩), v] W fun e w' => e = .returned (.bool true) ∧ Below W.heap.size W w' := by
  have hsm := lng_small hs
  obtain ⟨at_, ct, rfl, htk⟩ := h.toks
  obtain ⟨u0, u1, ul, rfl, k0, k1, kl⟩ := hv
  obtain ⟨a0, p0, rfl, -, -, -⟩ := id k0
  obtain ⟨a1, p1, rfl, -, -, -⟩ := id k1
  obtain ⟨al, pl, rfl, -, -, -⟩ := id kl
  have hst := pb_start W p.nm (.slice a0 p.b0.length p0) (.slice a1 p.b1.length p1) (.slice al p.ln.length pl)
  have hT := fun Y (hY : Below W.heap.size W Y) => h.below hY
  have hTc := fun Y (hY : Below W.heap.size W Y) => (h.below hY).c
  have hTe := fun Y (hY : Below W.heap.size W Y) => (h.below hY).ends
  have hS0 := fun Y (hY : Below W.heap.size W Y) => stands_true ((h.below hY).2.1 (g0, p.b0) (by simp)) (k0.below hY) hsm.1
  have hS1 := fun Y (hY : Below W.heap.size W Y) => stands_true ((h.below hY).2.1 (g1, p.b1) (by simp)) (k1.below hY) hsm.2.1
  have hGL := fun Y (hY : Below W.heap.size W Y) => kl.below hY
  have hSL : ∀ i, i < p.ln.length → ∃ b o a2 c2 bi gt, al = some ⟨b, o, none⟩ ∧ at_ = some ⟨gt, 0, none⟩ ∧ ∀ Y, Below W.heap.size W Y →
      Y.cell? ⟨b, o + i * 2, none⟩ = some (.int .i64 (p.ln.getD i (0, [])).1) ∧ Y.cell? ⟨b, o + i * 2 + 1, none⟩ = some (.slice a2 (p.ln.getD i (0, [])).2.length c2) ∧
      Y.cell? ⟨gt, i, none⟩ = some (.slice (some ⟨bi, 0, none⟩) ((p.ln.getD i (0, [])).2.length + 9) ((p.ln.getD i (0, [])).2.length + 9)) ∧
      Y.cell? ⟨gl, i * 2, none⟩ = some (.int .i64 (p.ln.getD i (0, [])).1) ∧ Y.cell? ⟨gl, i * 2 + 1, none⟩ = some (.slice (some ⟨bi, 0, none⟩) (p.ln.getD i (0, [])).2.length ((p.ln.getD i (0, [])).2.length + 9)) ∧
      Calls Tryd.prog 32 #[.slice (some ⟨bi, 0, none⟩) ((p.ln.getD i (0, [])).2.length + 9) ((p.ln.getD i (0, [])).2.length + 9), .slice a2 (p.ln.getD i (0, [])).2.length c2] Y fun e w' => e = .returned (.bool true) ∧ Below Y.heap.size Y w' := fun i hi => by
    obtain ⟨b, o, a2, n2, c2, e, hc, hn, hn2⟩ := kl.at hi
    obtain ⟨gt, et, hg⟩ := htk i hi
    subst hn2
    refine ⟨b, o, a2, c2, B.getD i 0, gt, e, et, fun Y hY => ⟨(hc Y hY).1, (hc Y hY).2, cell_below hY hg, ((h.below hY).line hi).1, ((h.below hY).line hi).2, stands_true ((h.below hY).rw hi) (hn.below hY) (hsm.2.2.2 i hi)⟩⟩
  obtain ⟨q, hq⟩ : ∃ q, W.heap.size = q := ⟨_, rfl⟩
  obtain ⟨n0, hn0⟩ : ∃ n0, p.b0.length = n0 := ⟨_, rfl⟩
  obtain ⟨n1, hn1⟩ : ∃ n1, p.b1.length = n1 := ⟨_, rfl⟩
  obtain ⟨L, hLn⟩ : ∃ L, p.ln.length = L := ⟨_, rfl⟩
  obtain ⟨pn, hpn⟩ : ∃ pn, p.nm = pn := ⟨_, rfl⟩
  simp only [tkv, whv, hq, hpn, hn0, hn1, hLn] at hst hTc hTe hS0 hS1 hSL hsm ⊢
  obtain ⟨W1, hW1⟩ : ∃ W1, W.alloc (.cells #[.string pn, .slice a0 n0 p0, .slice a1 n1 p1, .slice al L pl] 26) = W1 := ⟨_, rfl⟩
  rw [hW1] at hst
  have HP : Hid (PB q W pn (.slice a0 n0 p0) (.slice a1 n1 p1) (.slice al L pl) W1) := hst
  have HTC : Hid (∀ Y, Below q W Y → _) := hTc
  have HTE : Hid (∀ Y, Below q W Y → _) := hTe
  have HS0 : Hid (∀ Y, Below q W Y → _) := hS0
  have HS1 : Hid (∀ Y, Below q W Y → _) := hS1
  have HSL : Hid (∀ i, i < L → _) := hSL
  have HL : Hid (L ≤ 200) := hsm.2.2.1
  have c3 := hst.c3
  clear hst hT hTc hTe hS0 hS1 hGL hSL hsm h htk k0 k1 kl hn0 hn1 hLn hpn hs
  go_enter Tryd.func15, Tryd.ntmps15
  go_upto_region 3 with (fail)
  clear c3
  go_loopw [6] (fun v6 wr => (v6 = .int .i64 0 ∨ v6 = .int .i64 1 ∨ v6 = .int .i64 2) ∧ PB q W pn (.slice a0 n0 p0) (.slice a1 n1 p1) (.slice al L pl) wr) (fun v _ => 2 - (intOf v).toNat)
  case atStart => exact ⟨.inl rfl, HP.out⟩
  case round =>
    obtain ⟨hv, hp⟩ := hrel
    have HPR : Hid (PB q W pn (.slice a0 n0 p0) (.slice a1 n1 p1) (.slice al L pl) wr) := hp
    clear hp
    rcases hv with rfl | rfl | rfl
    · go_upto_region 5 with (fail)
      refine Go.Pin.wp_region_cls (fun Y => Below wr.heap.size wr Y) (by kernel_rfl) (by kernel_rfl) ((Below.refl _ _).drew) ?_
      intro Sq fq hNq hRq hSq
      have z0 := fun x => (HPR.out.below (hRq x)).c1
      have z1 := fun x => (HTC.out _ (HPR.out.below (hRq x)).old).1
      have CF := fun x => HS0.out (fq x) (HPR.out.below (hRq x)).old
      repeat (go_big_quiet_step (exact (CF _).mono (fun e w' h => ⟨h.1, hSq _ ((hRq _).trans (h.2.mono (hRq _).size))⟩)))
      refine wpQuiet_nil ?_
      intro _ hw'
      obtain ⟨xq, hw''⟩ := hw'
      subst hw''
      have HYq := hRq xq
      generalize fq xq = Y at HYq ⊢
      have HY : Hid (Below wr.heap.size wr Y) := HYq
      clear hRq hSq hNq xq fq Sq z0 z1 CF HYq
      go_wp2
      exact ⟨⟨.inr (.inl rfl), HPR.out.below HY.out⟩, by decide⟩
    · go_upto_region 5 with (fail)
      refine Go.Pin.wp_region_cls (fun Y => Below wr.heap.size wr Y) (by kernel_rfl) (by kernel_rfl) ((Below.refl _ _).drew) ?_
      intro Sq fq hNq hRq hSq
      have z0 := fun x => (HPR.out.below (hRq x)).c2
      have z1 := fun x => (HTC.out _ (HPR.out.below (hRq x)).old).2.1
      have CF := fun x => HS1.out (fq x) (HPR.out.below (hRq x)).old
      repeat (go_big_quiet_step (exact (CF _).mono (fun e w' h => ⟨h.1, hSq _ ((hRq _).trans (h.2.mono (hRq _).size))⟩)))
      refine wpQuiet_nil ?_
      intro _ hw'
      obtain ⟨xq, hw''⟩ := hw'
      subst hw''
      have HYq := hRq xq
      generalize fq xq = Y at HYq ⊢
      have HY : Hid (Below wr.heap.size wr Y) := HYq
      clear hRq hSq hNq xq fq Sq z0 z1 CF HYq
      go_wp2
      exact ⟨⟨.inr (.inr rfl), HPR.out.below HY.out⟩, by decide⟩
    · go_upto_region 8 with (fail)
      go_loopw [7] (fun v7 wy => ∃ i : Nat, i ≤ L ∧ v7 = .int .i64 i ∧ PB q W pn (.slice a0 n0 p0) (.slice a1 n1 p1) (.slice al L pl) wy) (fun v _ => L - (intOf v).toNat)
      case atStart => exact ⟨0, Nat.zero_le _, rfl, HPR.out⟩
      case round =>
        obtain ⟨i, hi, rfl, hp⟩ := hrel
        have HPi : Hid (PB q W pn (.slice a0 n0 p0) (.slice a1 n1 p1) (.slice al L pl) wr) := hp
        by_cases hlt : i < L
        · have b1 : (i : Int) < (L : Int) := by omega
          have b2 : (i : Int) < (L : Int) + 2 := by omega
          have HI : Hid (i < L) := hlt
          obtain ⟨b, o, a2, c2, bi, gt, rfl, rfl, hcl⟩ := HSL.out i hlt
          obtain ⟨fr, hfr⟩ : ∃ fr, (p.ln.getD i (0, [])).1 = fr := ⟨_, rfl⟩
          obtain ⟨m, hm⟩ : ∃ m, (p.ln.getD i (0, [])).2.length = m := ⟨_, rfl⟩
          simp only [hfr, hm] at hcl
          have HCL : Hid (∀ Y, Below q W Y → _) := hcl
          have e1 : (fr == fr) = true := by simp
          have e2 : (fr != fr) = false := by simp
          have e3 : ((m : Int) == (m : Int)) = true := by simp
          have e4 : ((m : Int) != (m : Int)) = false := by simp
          clear hp hi hlt hcl hfr hm
          go_upto_region 10 with (fail)
          refine Go.Pin.wp_region_cls (fun Y => Below wr.heap.size wr Y) (by kernel_rfl) (by kernel_rfl) ((Below.refl _ _).drew) ?_
          intro Sq fq hNq hRq hSq
          have z0 := fun x => (HPi.out.below (hRq x)).c3
          have z1 := fun x => (HTC.out _ (HPi.out.below (hRq x)).old).2.2.1
          have z2 := fun x => (HTC.out _ (HPi.out.below (hRq x)).old).2.2.2
          have y0 := fun x => (HCL.out _ (HPi.out.below (hRq x)).old).1
          have y1 := fun x => (HCL.out _ (HPi.out.below (hRq x)).old).2.1
          have y2 := fun x => (HCL.out _ (HPi.out.below (hRq x)).old).2.2.1
          have y3 := fun x => (HCL.out _ (HPi.out.below (hRq x)).old).2.2.2.1
          have y4 := fun x => (HCL.out _ (HPi.out.below (hRq x)).old).2.2.2.2.1
          have CF := fun x => (HCL.out _ (HPi.out.below (hRq x)).old).2.2.2.2.2
          repeat (go_big_quiet_step (exact (CF _).mono (fun e w' h => ⟨h.1, hSq _ ((hRq _).trans (h.2.mono (hRq _).size))⟩)))
          refine wpQuiet_nil ?_
          intro _ hw'
          obtain ⟨xq, hw''⟩ := hw'
          subst hw''
          have HYq := hRq xq
          generalize fq xq = Y at HYq ⊢
          have HY : Hid (Below wr.heap.size wr Y) := HYq
          clear hRq hSq hNq xq fq Sq z0 z1 z2 y0 y1 y2 y3 y4 CF HYq
          go_wp2
          exact ⟨⟨i + 1, HI.out, congrArg (Value.int .i64) (wrapS HI.out (by have := HL.out; omega)), HPi.out.below HY.out⟩, measS HI.out (by have := HL.out; omega)⟩
        · obtain rfl : i = L := by omega
          have b1 : ¬ (i : Int) < (i : Int) := by omega
          have b2 : (i : Int) < (i : Int) + 2 := by omega
          have b3 : (i : Int) + 1 < (i : Int) + 2 := by omega
          have hw : wrap64 ((i : Int) + 1) = (i : Int) + 1 := IntWalk.wrap64_in _ ⟨by omega, by have := HL.out; omega⟩
          obtain ⟨t4, t5, t6, t7⟩ := HTC.out wr hp.old
          obtain ⟨e0, e1, e2⟩ := HTE.out wr hp.old
          clear hp hi hlt
          go_wp2
          go_ret
          exact ⟨rfl, HPi.out.old⟩
end Go.Proofs.YtjhleocpipmklaaDoor
