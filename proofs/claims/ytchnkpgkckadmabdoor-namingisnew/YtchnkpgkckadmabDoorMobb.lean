import Derived.Test.YtchnkpgkckadmabDoorMoah
import Derived.Test.YtchnkpgkckadmabDoorMoau
import Derived.Test.YtchnkpgkckadmabDoorMoba
import Derived.Test.YtchnkpgkckadmabDoorMoai
namespace Go.Proofs.YtchnkpgkckadmabDoor
set_option linter.unusedSimpArgs false
set_option linter.unusedVariables false
set_option maxRecDepth 100000
open Go.ChangeShapes Go.WideShapes Go.ChangeAt Go.RowKit Go.Pin Go.Pat Go.Deep
/-- what the program's Parse answers, in memory of its own -/
def NpP (ea : Int → Addr) (t : ByteArray) (W : World) (e : Ending) (w' : World) : Prop :=
  Below W.heap.size W w' ∧ ∃ v0 v1 vl, e = .returned (.tuple #[.agg #[.string (nprs t).1.nm, v0, v1, vl], EV ea (nprs t).2]) ∧ FtP (fun b => W.heap.size ≤ b ∧ b < w'.heap.size) w' v0 v1 vl (nprs t).1 ∧
    ((nprs t).2 = 0 → ∃ fs, lvl fs = (nprs t).1.ln ∧ EX W.heap.size [] [(0, v0, (nprs t).1.b0), (1, v1, (nprs t).1.b1)] fs vl w')
theorem owns_cap {w : World} {b : Nat} {e : TypeId} {k n : Nat} {v : Value} {xs : List Value} (hk : 0 < k) (h : w.ownsRow b e k v n xs) : ∀ a m c, v = .slice a m c → m ≤ c := fun a m c e => by
  rcases h.2 with ⟨rfl, rfl⟩ | ⟨g, cap, cur, rfl, hr⟩
  · injection e with e1 e2 e3; omega
  · injection e with e1 e2 e3
    have := hr.2.2.1; omega
set_option maxHeartbeats 8000000 in
theorem nparse_any {ea : Int → Addr} (t : ByteArray) (W : World) (hE : Errs ea W) (ht : t.size ≤ 140737488355400) :
    Calls Tryd.prog 5 #[.string t] W (NpP ea t W) := by
  have h0 : PO W.heap.size W (W.alloc (.cells zPR 29)) := ⟨(Below.refl _ _).alloc (Nat.le_refl _) _, by rw [size_alloc]; omega, heap_alloc_new _ _⟩
  unfold NpP
  obtain ⟨q, hq⟩ : ∃ q, W.heap.size = q := ⟨_, rfl⟩
  simp only [hq] at h0 ⊢
  have HN : Hid (W.heap.size = q) := hq
  have HE : Hid (∀ y, Below q W y → Errs ea y) := fun y hy => hE.below (by rw [hq]; exact hy)
  obtain ⟨W0, hW0⟩ : ∃ W0, W.alloc (.cells zPR 29) = W0 := ⟨_, rfl⟩
  rw [hW0] at h0
  have H0 : Hid (PO q W W0) := h0
  have hs0 : W0.heap.size = q + 1 := by rw [← hW0, size_alloc, hq]
  have HS0 : Hid (W0.heap.size = q + 1) := hs0
  clear h0 hE hs0
  obtain ⟨n, hn⟩ : ∃ n, t.size = n := ⟨_, rfl⟩
  rw [hn] at ht
  by_cases hz : 255 < n
  · have HNO : Hid (nprs t = (zPt, 13)) := nprs_big (by omega)
    have t0 : (n : Int) > 255 := by omega
    have t1 : (255 : Int) < (n : Int) := by omega
    clear hz
    go_enter Tryd.func5, Tryd.ntmps5
    go_upto_region 2 with (fail)
    have e1 := ((HE.out _ H0.out.old).1 13 (by decide)).1
    simp only [eblk] at e1
    have r0 := cell_of_row W0 q 0 _ _ _ H0.out.hp
    have r1 := cell_of_row W0 q 1 _ _ _ H0.out.hp
    have r2 := cell_of_row W0 q 2 _ _ _ H0.out.hp
    have r3 := cell_of_row W0 q 3 _ _ _ H0.out.hp
    have f0 := frozen_of_row W0 q 0 _ _ H0.out.hp
    have f1 := frozen_of_row W0 q 1 _ _ H0.out.hp
    have f2 := frozen_of_row W0 q 2 _ _ H0.out.hp
    have f3 := frozen_of_row W0 q 3 _ _ H0.out.hp
    simp at r0 r1 r2 r3
    have q1 : ¬ q = 0 := by
      have hh := World.block_lt_of_cell? W _ (((HE.out _ (Below.refl _ _)).1 13 (by decide)).1)
      simp only [eblk, HN.out] at hh
      omega
    have q2 : ¬ 0 = q := fun h => q1 h.symm
    go_wp2
    go_region
    all_goals go_wp2
    have hB9 : Below q W ((((W0.setCell ⟨q, 0, none⟩ (.string ⟨#[]⟩)).setCell ⟨q, 1, none⟩ (.slice none 0 0)).setCell ⟨q, 2, none⟩ (.slice none 0 0)).setCell ⟨q, 3, none⟩ (.slice none 0 0)).drew := ((((H0.out.old.setCell (p := ⟨q, 0, none⟩) (Nat.le_refl _) _).setCell (p := ⟨q, 1, none⟩) (Nat.le_refl _) _).setCell (p := ⟨q, 2, none⟩) (Nat.le_refl _) _).setCell (p := ⟨q, 3, none⟩) (Nat.le_refl _) _).drew
    refine bodyPost_ret (v := .tuple #[.agg zPR, .iface 138 (.pointer (some (ea 13)))]) ?_ rfl ⟨hB9, _, _, _, by rw [HNO.out]; rfl, by rw [HNO.out]; exact ftp_zero _ _, fun h => by rw [HNO.out] at h; cases h⟩
    exact results_row_tmp (P := Tryd.prog) (fn := Tryd.f5) (p := 2) (u := 3) (ty := 29) rfl _ _ q 29 _ (0, 0) _ _ rfl (four_rw H0.out.hp _ _ _ _) Tryd.underlying29 rfl (ipR _ _ _ _) rfl
  have t0 : ¬ (n : Int) > 255 := by omega
  have t1 : ¬ (255 : Int) < (n : Int) := by omega
  have HZ : Hid (t.size ≤ 255) := by show _ ≤ _; omega
  have CS := nsplit_any t W0 (by omega)
  rw [HS0.out] at CS
  unfold SpP at CS
  clear hz
  cases hsp : nspL (toL t) with
  | none =>
    rw [hsp] at CS
    have HNO : Hid (nprs t = (zPt, 13)) := nprs_no (fun b ws hf => by rw [nspL_form.2 hf] at hsp; cases hsp)
    clear hsp
    go_enter Tryd.func5, Tryd.ntmps5
    go_upto_region 4 with (go_at_call 6; refine CS.mono ?_; rintro e w1 ⟨hb, rfl⟩; have H1 : Hid (PO q W w1) := H0.out.below (by rw [HS0.out]; exact hb); clear hb CS)
    go_upto_region 5 with (fail)
    have e1 := ((HE.out _ H1.out.old).1 13 (by decide)).1
    simp only [eblk] at e1
    have r0 := cell_of_row w1 q 0 _ _ _ H1.out.hp
    have r1 := cell_of_row w1 q 1 _ _ _ H1.out.hp
    have r2 := cell_of_row w1 q 2 _ _ _ H1.out.hp
    have r3 := cell_of_row w1 q 3 _ _ _ H1.out.hp
    have f0 := frozen_of_row w1 q 0 _ _ H1.out.hp
    have f1 := frozen_of_row w1 q 1 _ _ H1.out.hp
    have f2 := frozen_of_row w1 q 2 _ _ H1.out.hp
    have f3 := frozen_of_row w1 q 3 _ _ H1.out.hp
    simp at r0 r1 r2 r3
    have q1 : ¬ q = 0 := by
      have hh := World.block_lt_of_cell? W _ (((HE.out _ (Below.refl _ _)).1 13 (by decide)).1)
      simp only [eblk, HN.out] at hh
      omega
    have q2 : ¬ 0 = q := fun h => q1 h.symm
    go_wp2
    go_region
    all_goals go_wp2
    have hB9 : Below q W ((((w1.setCell ⟨q, 0, none⟩ (.string ⟨#[]⟩)).setCell ⟨q, 1, none⟩ (.slice none 0 0)).setCell ⟨q, 2, none⟩ (.slice none 0 0)).setCell ⟨q, 3, none⟩ (.slice none 0 0)).drew := ((((H1.out.old.setCell (p := ⟨q, 0, none⟩) (Nat.le_refl _) _).setCell (p := ⟨q, 1, none⟩) (Nat.le_refl _) _).setCell (p := ⟨q, 2, none⟩) (Nat.le_refl _) _).setCell (p := ⟨q, 3, none⟩) (Nat.le_refl _) _).drew
    refine bodyPost_ret (v := .tuple #[.agg zPR, .iface 138 (.pointer (some (ea 13)))]) ?_ rfl ⟨hB9, _, _, _, by rw [HNO.out]; rfl, by rw [HNO.out]; exact ftp_zero _ _, fun h => by rw [HNO.out] at h; cases h⟩
    exact results_row_tmp (P := Tryd.prog) (fn := Tryd.f5) (p := 2) (u := 3) (ty := 29) rfl _ _ q 29 _ (0, 0) _ _ rfl (four_rw H1.out.hp _ _ _ _) Tryd.underlying29 rfl (ipR _ _ _ _) rfl
  | some x =>
    obtain ⟨b, ws⟩ := x
    rw [hsp] at CS
    simp only at CS
    go_enter Tryd.func5, Tryd.ntmps5
    go_upto_region 4 with (go_at_call 6; refine CS.mono ?_; rintro e w1 ⟨hb, B, L, v, hB, hL, rfl, how⟩; obtain ⟨a4, c4, rfl⟩ := own_slice' how; have H1 : Hid (PO q W w1) := H0.out.below (by rw [HS0.out]; exact hb); have HO : Hid (w1.ownsRow (q + 1) 9 1 (.slice a4 L.length c4) L.length (L.map Value.string)) := how; clear hb CS how)
    have hF : FormB t B L := by have := nspL_form.1 hsp; rw [← hB, ← hL] at this; exact this
    have HP : Hid (nprs t = nmd B L) := nprs_form hF HZ.out
    have HL : Hid (2 * L.length ≤ 255 ∧ (∀ w ∈ L, w.size ≤ 255) ∧ B.size ≤ 255) := by
      have := form_len hF
      have hz := HZ.out
      exact ⟨by omega, fun w hw => by have := this.2.1 w hw; omega, by omega⟩
    obtain ⟨m, hm⟩ : ∃ m, L.length = m := ⟨_, rfl⟩
    have HM : Hid (L.length = m) := hm
    rw [hm] at HO ⊢
    have CF := find_any' (ea := ea) B w1 (HE.out _ H1.out.old)
    unfold FnP at CF
    clear hsp hB hL hF hm
    cases hp : tbI B with
    | none =>
      rw [hp] at CF
      have HNO : Hid (nprs t = (zPt, 13)) := by show nprs t = _; rw [HP.out]; unfold nmd; rw [hp]
      clear hp
      go_upto_region 7 with (go_at_call 7; refine CF.mono ?_; rintro e w2 ⟨hb, v0, v1, vl, rfl, hf⟩; obtain ⟨p0, q0, s0, rfl⟩ := hf.1.sl3; obtain ⟨p1, q1, s1, rfl⟩ := hf.2.1.sl3; obtain ⟨p2, q2, s2, rfl⟩ := hf.2.2.sl3; have H2 : Hid (PO q W w2) := H1.out.below hb; clear hb hf CF)
      have h3 : PO q W (w2.alloc (.cells #[.string zPt.nm, .slice p0 q0 s0, .slice p1 q1 s1, .slice p2 q2 s2] 29)) := H2.out.below ((Below.refl _ _).alloc (Nat.le_refl _) _)
      try simp only [Option.getD_none]
      obtain ⟨w3, hw3⟩ : ∃ w3, w2.alloc (.cells #[.string zPt.nm, .slice p0 q0 s0, .slice p1 q1 s1, .slice p2 q2 s2] 29) = w3 := ⟨_, rfl⟩
      rw [hw3] at h3 ⊢
      have H3 : Hid (PO q W w3) := h3
      clear h3 hw3
      go_upto_region 8 with (fail)
      have e1 := ((HE.out _ H3.out.old).1 13 (by decide)).1
      simp only [eblk] at e1
      have r0 := cell_of_row w3 q 0 _ _ _ H3.out.hp
      have r1 := cell_of_row w3 q 1 _ _ _ H3.out.hp
      have r2 := cell_of_row w3 q 2 _ _ _ H3.out.hp
      have r3 := cell_of_row w3 q 3 _ _ _ H3.out.hp
      have f0 := frozen_of_row w3 q 0 _ _ H3.out.hp
      have f1 := frozen_of_row w3 q 1 _ _ H3.out.hp
      have f2 := frozen_of_row w3 q 2 _ _ H3.out.hp
      have f3 := frozen_of_row w3 q 3 _ _ H3.out.hp
      simp at r0 r1 r2 r3
      have q1 : ¬ q = 0 := by
        have hh := World.block_lt_of_cell? W _ (((HE.out _ (Below.refl _ _)).1 13 (by decide)).1)
        simp only [eblk, HN.out] at hh
        omega
      have q2 : ¬ 0 = q := fun h => q1 h.symm
      go_wp2
      go_region
      all_goals go_wp2
      have hB9 : Below q W ((((w3.setCell ⟨q, 0, none⟩ (.string ⟨#[]⟩)).setCell ⟨q, 1, none⟩ (.slice none 0 0)).setCell ⟨q, 2, none⟩ (.slice none 0 0)).setCell ⟨q, 3, none⟩ (.slice none 0 0)).drew := ((((H3.out.old.setCell (p := ⟨q, 0, none⟩) (Nat.le_refl _) _).setCell (p := ⟨q, 1, none⟩) (Nat.le_refl _) _).setCell (p := ⟨q, 2, none⟩) (Nat.le_refl _) _).setCell (p := ⟨q, 3, none⟩) (Nat.le_refl _) _).drew
      refine bodyPost_ret (v := .tuple #[.agg zPR, .iface 138 (.pointer (some (ea 13)))]) ?_ rfl ⟨hB9, _, _, _, by rw [HNO.out]; rfl, by rw [HNO.out]; exact ftp_zero _ _, fun h => by rw [HNO.out] at h; cases h⟩
      exact results_row_tmp (P := Tryd.prog) (fn := Tryd.f5) (p := 2) (u := 3) (ty := 29) rfl _ _ q 29 _ (0, 0) _ _ rfl (four_rw H3.out.hp _ _ _ _) Tryd.underlying29 rfl (ipR _ _ _ _) rfl
    | some p =>
      have hpt := tab_f (tbI_mem hp).1
      have HPT : Hid (p.nm.size ≤ 100) := hpt.nm
      have HQ : Hid (nprs t = if (mdf p L).2 ≠ 0 then (zPt, 13) else ((mdf p L).1, 0)) := by show nprs t = _; rw [HP.out]; unfold nmd; rw [hp]
      simp only [hp, Option.getD_some, Option.isSome_some] at CF
      clear hp hpt HP
      go_upto_region 7 with (go_at_call 7; refine CF.mono ?_; rintro e w2 ⟨hb, v0, v1, vl, rfl, hf⟩; obtain ⟨p0, q0, s0, rfl⟩ := hf.1.sl3; obtain ⟨p1, q1, s1, rfl⟩ := hf.2.1.sl3; obtain ⟨p2, q2, s2, rfl⟩ := hf.2.2.sl3; have H2 : Hid (PO q W w2 ∧ RdP w2 (.agg #[.string p.nm, .slice p0 q0 s0, .slice p1 q1 s1, .slice p2 q2 s2]) p ∧ RdS w2 (.slice a4 m c4) L) := ⟨H1.out.below hb, hf.rd, (own_strs (by rw [HM.out]; exact HO.out)).below hb⟩; clear hb hf CF)
      have hb3 : Below w2.heap.size w2 (w2.alloc (.cells #[.string p.nm, .slice p0 q0 s0, .slice p1 q1 s1, .slice p2 q2 s2] 29)) := (Below.refl _ _).alloc (Nat.le_refl _) _
      have hr3 := heap_alloc_new w2 (.cells #[.string p.nm, .slice p0 q0 s0, .slice p1 q1 s1, .slice p2 q2 s2] 29)
      obtain ⟨g3, hg3⟩ : ∃ g3, w2.heap.size = g3 := ⟨_, rfl⟩
      obtain ⟨w3, hw3⟩ : ∃ w3, w2.alloc (.cells #[.string p.nm, .slice p0 q0 s0, .slice p1 q1 s1, .slice p2 q2 s2] 29) = w3 := ⟨_, rfl⟩
      rw [hw3] at hb3 hr3 ⊢
      simp only [hg3] at hr3 ⊢
      have H3 : Hid (PO q W w3 ∧ RdP w3 (.agg #[.string p.nm, .slice p0 q0 s0, .slice p1 q1 s1, .slice p2 q2 s2]) p ∧ RdS w3 (.slice a4 m c4) L) := ⟨H2.out.1.below hb3, H2.out.2.1.below hb3, H2.out.2.2.below hb3⟩
      have k0 := cell_of_row w3 g3 0 _ _ _ hr3
      have k1 := cell_of_row w3 g3 1 _ _ _ hr3
      have k2 := cell_of_row w3 g3 2 _ _ _ hr3
      have k3 := cell_of_row w3 g3 3 _ _ _ hr3
      simp at k0 k1 k2 k3
      clear hb3 hr3 hw3 hg3
      have CM := modify_own (ea := ea) (.agg #[.string p.nm, .slice p0 q0 s0, .slice p1 q1 s1, .slice p2 q2 s2]) (.slice a4 m c4) p L w3 (HE.out _ H3.out.1.old) H3.out.2.1 H3.out.2.2 (by have := HPT.out; omega) (by have := HL.out.1; omega) (fun x hx => by have := HL.out.2.1 x hx; omega) (owns_cap (by decide) HO.out)
      unfold MoO at CM
      obtain ⟨pn, hpn⟩ : ∃ pn, p.nm = pn := ⟨_, rfl⟩
      obtain ⟨md, hmd⟩ : ∃ md, mdf p L = md := ⟨_, rfl⟩
      rw [hpn] at k0 CM
      rw [hmd] at CM HQ
      obtain ⟨P, c⟩ := md
      simp only at CM HQ
      have HG3 : Hid (q < w3.heap.size) := H3.out.1.sz
      clear hmd
      rw [hpn]
      by_cases hc : c = 0
      · subst hc
        have HQ' : Hid (nprs t = (P, 0)) := by show nprs t = _; rw [HQ.out]; rfl
        obtain ⟨Pn, hPn⟩ : ∃ Pn, P.nm = Pn := ⟨_, rfl⟩
        rw [hPn] at CM
        simp only [EV_0] at CM
        have HPN : Hid (P.nm = Pn) := hPn
        clear HQ hPn
        go_upto_region 10 with (go_at_call 8; refine CM.mono ?_; rintro e w4 ⟨hb, v0, v1, vl, rfl, hf, hx⟩; obtain ⟨m0, l0, z0, rfl⟩ := hf.1.sl3; obtain ⟨m1, l1, z1, rfl⟩ := hf.2.1.sl3; obtain ⟨m2, l2, z2, rfl⟩ := hf.2.2.sl3; have H4 : Hid (PO q W w4) := H3.out.1.below hb; have HX : Hid _ := hx trivial; have HF : Hid (FtP (fun b => w3.heap.size ≤ b ∧ b < w4.heap.size) w4 (.slice m0 l0 z0) (.slice m1 l1 z1) (.slice m2 l2 z2) P) := hf; clear hb hf hx CM k0 k1 k2 k3)
        have hb5 : Below w4.heap.size w4 (w4.alloc (.cells #[.string Pn, .slice m0 l0 z0, .slice m1 l1 z1, .slice m2 l2 z2] 29)) := (Below.refl _ _).alloc (Nat.le_refl _) _
        have hr5 := heap_alloc_new w4 (.cells #[.string Pn, .slice m0 l0 z0, .slice m1 l1 z1, .slice m2 l2 z2] 29)
        obtain ⟨g5, hg5⟩ : ∃ g5, w4.heap.size = g5 := ⟨_, rfl⟩
        obtain ⟨w5, hw5⟩ : ∃ w5, w4.alloc (.cells #[.string Pn, .slice m0 l0 z0, .slice m1 l1 z1, .slice m2 l2 z2] 29) = w5 := ⟨_, rfl⟩
        have hs5 : w5.heap.size = w4.heap.size + 1 := by rw [← hw5, size_alloc]
        rw [hw5] at hb5 hr5 ⊢
        simp only [hg5] at hr5 ⊢
        have H5 : Hid (PO q W w5) := H4.out.below hb5
        obtain ⟨fs, hfs, hex⟩ := HX.out
        have HX5 : Hid (EX w3.heap.size [] [(0, .slice m0 l0 z0, P.b0), (1, .slice m1 l1 z1, P.b1)] fs (.slice m2 l2 z2) w5) := hex.below hb5
        have HF5 : Hid (FtP (fun b => w3.heap.size ≤ b ∧ b < w5.heap.size) w5 (.slice m0 l0 z0) (.slice m1 l1 z1) (.slice m2 l2 z2) P) := (HF.out.keep (fun b hb => hb5.block b hb.2)).mono (fun b hb => ⟨hb.1, by have := hb.2; omega⟩)
        have HFS : Hid (lvl fs = P.ln) := hfs
        have k0 := cell_of_row w5 g5 0 _ _ _ hr5
        have k1 := cell_of_row w5 g5 1 _ _ _ hr5
        have k2 := cell_of_row w5 g5 2 _ _ _ hr5
        have k3 := cell_of_row w5 g5 3 _ _ _ hr5
        simp at k0 k1 k2 k3
        have hrow := H5.out.hp
        clear hb5 hr5 hw5 hg5 hs5 hex hfs HX HF
        go_wp2_with (with_reducible refine at_list ?_; refine hold_store 29 (.tmp 2) (.tmp 44) rfl ?_)
        refine wpList_store_row rfl 29 (.tmp 2) (.tmp 44) rfl q #[.string Pn, .slice m0 l0 z0, .slice m1 l1 z1, .slice m2 l2 z2] rfl rfl 29 zPR hrow (ipR _ _ _ _) rfl (by simp [Value.oneCell']) ?_
        go_wp2
        have hft : FtP (fun b => q ≤ b ∧ b < (w5.setRow q #[.string Pn, .slice m0 l0 z0, .slice m1 l1 z1, .slice m2 l2 z2]).heap.size) (w5.setRow q #[.string Pn, .slice m0 l0 z0, .slice m1 l1 z1, .slice m2 l2 z2]) (.slice m0 l0 z0) (.slice m1 l1 z1) (.slice m2 l2 z2) P := (HF5.out.keep (fun b hb => setRow_other _ _ _ _ (by have := hb.1; have := HG3.out; omega))).mono (fun b hb => ⟨by have := hb.1; have := HG3.out; omega, by rw [size_setRow]; exact hb.2⟩)
        have hex : EX q [] [(0, .slice m0 l0 z0, P.b0), (1, .slice m1 l1 z1, P.b1)] fs (.slice m2 l2 z2) (w5.setRow q #[.string Pn, .slice m0 l0 z0, .slice m1 l1 z1, .slice m2 l2 z2]) := (HX5.out.keep (fun b hb _ _ => setRow_other _ _ _ _ (by have := HG3.out; omega))).mono (by have := HG3.out; omega) (List.nil_sublist _)
        refine bodyPost_ret (v := .tuple #[.agg #[.string Pn, .slice m0 l0 z0, .slice m1 l1 z1, .slice m2 l2 z2], .nilIface]) ?_ rfl ⟨below_setRow H5.out.old _ (Nat.le_refl _) _, _, _, _, by rw [HQ'.out, ← HPN.out]; rfl, by rw [HQ'.out]; exact hft, fun _ => ⟨fs, by rw [HQ'.out]; exact HFS.out, by rw [HQ'.out]; exact hex⟩⟩
        exact results_row_tmp (P := Tryd.prog) (fn := Tryd.f5) (p := 2) (u := 3) (ty := 29) rfl _ _ q 29 _ (0, 0) _ _ rfl (setRow_heap _ _ _ _ 29 _ hrow) Tryd.underlying29 rfl (ipR _ _ _ _) rfl
      · have HNO : Hid (nprs t = (zPt, 13)) := by show nprs t = _; rw [HQ.out, if_pos hc]
        rw [EV_ne hc] at CM
        clear hc HQ
        go_upto_region 10 with (go_at_call 8; refine CM.mono ?_; rintro e w4 ⟨hb, v0, v1, vl, rfl, hf, hx⟩; obtain ⟨m0, l0, z0, rfl⟩ := hf.1.sl3; obtain ⟨m1, l1, z1, rfl⟩ := hf.2.1.sl3; obtain ⟨m2, l2, z2, rfl⟩ := hf.2.2.sl3; have H4 : Hid (PO q W w4) := H3.out.1.below hb; clear hb hf hx CM k0 k1 k2 k3)
        have h5 : PO q W (w4.alloc (.cells #[.string P.nm, .slice m0 l0 z0, .slice m1 l1 z1, .slice m2 l2 z2] 29)) := H4.out.below ((Below.refl _ _).alloc (Nat.le_refl _) _)
        obtain ⟨w5, hw5⟩ : ∃ w5, w4.alloc (.cells #[.string P.nm, .slice m0 l0 z0, .slice m1 l1 z1, .slice m2 l2 z2] 29) = w5 := ⟨_, rfl⟩
        rw [hw5] at h5 ⊢
        have H5 : Hid (PO q W w5) := h5
        clear h5 hw5
        go_upto_region 11 with (fail)
        have e1 := ((HE.out _ H5.out.old).1 13 (by decide)).1
        simp only [eblk] at e1
        have r0 := cell_of_row w5 q 0 _ _ _ H5.out.hp
        have r1 := cell_of_row w5 q 1 _ _ _ H5.out.hp
        have r2 := cell_of_row w5 q 2 _ _ _ H5.out.hp
        have r3 := cell_of_row w5 q 3 _ _ _ H5.out.hp
        have f0 := frozen_of_row w5 q 0 _ _ H5.out.hp
        have f1 := frozen_of_row w5 q 1 _ _ H5.out.hp
        have f2 := frozen_of_row w5 q 2 _ _ H5.out.hp
        have f3 := frozen_of_row w5 q 3 _ _ H5.out.hp
        simp at r0 r1 r2 r3
        have q1 : ¬ q = 0 := by
          have hh := World.block_lt_of_cell? W _ (((HE.out _ (Below.refl _ _)).1 13 (by decide)).1)
          simp only [eblk, HN.out] at hh
          omega
        have q2 : ¬ 0 = q := fun h => q1 h.symm
        go_wp2
        go_region
        all_goals go_wp2
        have hB9 : Below q W ((((w5.setCell ⟨q, 0, none⟩ (.string ⟨#[]⟩)).setCell ⟨q, 1, none⟩ (.slice none 0 0)).setCell ⟨q, 2, none⟩ (.slice none 0 0)).setCell ⟨q, 3, none⟩ (.slice none 0 0)).drew := ((((H5.out.old.setCell (p := ⟨q, 0, none⟩) (Nat.le_refl _) _).setCell (p := ⟨q, 1, none⟩) (Nat.le_refl _) _).setCell (p := ⟨q, 2, none⟩) (Nat.le_refl _) _).setCell (p := ⟨q, 3, none⟩) (Nat.le_refl _) _).drew
        refine bodyPost_ret (v := .tuple #[.agg zPR, .iface 138 (.pointer (some (ea 13)))]) ?_ rfl ⟨hB9, _, _, _, by rw [HNO.out]; rfl, by rw [HNO.out]; exact ftp_zero _ _, fun h => by rw [HNO.out] at h; cases h⟩
        exact results_row_tmp (P := Tryd.prog) (fn := Tryd.f5) (p := 2) (u := 3) (ty := 29) rfl _ _ q 29 _ (0, 0) _ _ rfl (four_rw H5.out.hp _ _ _ _) Tryd.underlying29 rfl (ipR _ _ _ _) rfl
end Go.Proofs.YtchnkpgkckadmabDoor
namespace Go.Proofs.YtchnkpgkckadmabDoor
set_option linter.unusedSimpArgs false
set_option linter.unusedVariables false
set_option maxRecDepth 100000
open Go.ChangeShapes Go.WideShapes Go.ChangeAt Go.RowKit Go.Pin Go.Pat Go.Deep
theorem box_ne {w : World} {b k o : Nat} {T : TypeId} {x : Int} (hb : w.heap[b]? = some (.cells zPR T)) (h : w.cell? ⟨k, o, none⟩ = some (.int .i64 x)) : k ≠ b := by
  rintro rfl
  rw [cell_of_row _ _ _ _ _ _ hb] at h
  match o, h with
  | 0, h => simp [zPR] at h
  | 1, h => simp [zPR] at h
  | 2, h => simp [zPR] at h
  | 3, h => simp [zPR] at h
  | o + 4, h => simp [zPR] at h
theorem cell_off {w : World} {b k o : Nat} {cs : Array Value} (h : k ≠ b) : (w.setRow b cs).cell? ⟨k, o, none⟩ = w.cell? ⟨k, o, none⟩ := World.cell?_of_block (a := ⟨k, o, none⟩) (setRow_other w b k cs h)
theorem RdN.box {w : World} {b : Nat} {T : TypeId} {cs : Array Value} {v : Value} {C : List Int} (hb : w.heap[b]? = some (.cells zPR T)) (h : RdN w v C) : RdN (w.setRow b cs) v C := by
  obtain ⟨a, cap, e, h1, h2, h3⟩ := h
  refine ⟨a, cap, e, h1, h2, ?_⟩
  rcases h3 with h3 | ⟨k, o, h3, h4⟩
  · exact .inl h3
  · refine .inr ⟨k, o, h3, fun j u hj => ?_⟩
    have := h4 j u hj
    obtain ⟨x, hx⟩ : ∃ x, u = .int .i64 x := by
      have := List.mem_of_getElem? hj
      obtain ⟨x, _, rfl⟩ := List.mem_map.1 this
      exact ⟨x, rfl⟩
    subst hx
    rw [cell_off (box_ne hb this)]
    exact this
theorem RdP.box {w : World} {b : Nat} {T : TypeId} {cs : Array Value} {v : Value} {p : Pt} (hb : w.heap[b]? = some (.cells zPR T)) (h : RdP w v p) : RdP (w.setRow b cs) v p := by
  obtain ⟨v0, v1, vl, e, h0, h1, a, cap, e2, h2, h3, h4⟩ := h
  refine ⟨v0, v1, vl, e, h0.box hb, h1.box hb, a, cap, e2, h2, h3, fun j hj => ?_⟩
  obtain ⟨k, o, u, g1, g2, g3, g4⟩ := h4 j hj
  have hk := box_ne hb g2
  exact ⟨k, o, u, g1, by rw [cell_off hk]; exact g2, by rw [cell_off hk]; exact g3, g4.box hb⟩
/-- a pattern in a box of its own -/
structure BX (b : Nat) (v0 v1 vl : Value) (p : Pt) (wr : World) : Prop where
  row : wr.heap[b]? = some (.cells #[.string p.nm, v0, v1, vl] 29)
  rd : RdP wr (.agg #[.string p.nm, v0, v1, vl]) p
section
variable {b : Nat} {v0 v1 vl : Value} {p : Pt} {wr w' : World}
theorem BX.lt (h : BX b v0 v1 vl p wr) : b < wr.heap.size := (Array.getElem?_eq_some_iff.1 h.row).1
theorem BX.below (h : BX b v0 v1 vl p wr) (hb : Below wr.heap.size wr w') : BX b v0 v1 vl p w' := ⟨(hb.block b h.lt).trans h.row, h.rd.below hb⟩
theorem BX.c0 (h : BX b v0 v1 vl p wr) : wr.cell? ⟨b, 0, none⟩ = some (.string p.nm) := by rw [cell_of_row _ _ _ _ _ _ h.row]; rfl
theorem BX.c1 (h : BX b v0 v1 vl p wr) : wr.cell? ⟨b, 1, none⟩ = some v0 := by rw [cell_of_row _ _ _ _ _ _ h.row]; rfl
theorem BX.c2 (h : BX b v0 v1 vl p wr) : wr.cell? ⟨b, 2, none⟩ = some v1 := by rw [cell_of_row _ _ _ _ _ _ h.row]; rfl
theorem BX.c3 (h : BX b v0 v1 vl p wr) : wr.cell? ⟨b, 3, none⟩ = some vl := by rw [cell_of_row _ _ _ _ _ _ h.row]; rfl
theorem bx_new (w : World) (h : RdP w (.agg #[.string p.nm, v0, v1, vl]) p) : BX w.heap.size v0 v1 vl p (w.alloc (.cells #[.string p.nm, v0, v1, vl] 29)) :=
  ⟨heap_alloc_new _ _, h.below ((Below.refl _ _).alloc (Nat.le_refl _) _)⟩
end
theorem ft_sl {S : Nat → Prop} {w : World} {v0 v1 vl : Value} {p : Pt} (h : FtP S w v0 v1 vl p) : ∃ a0 k0 a1 k1 al kl, v0 = .slice a0 p.b0.length k0 ∧ v1 = .slice a1 p.b1.length k1 ∧ vl = .slice al p.ln.length kl := by
  obtain ⟨⟨a0, k0, e0, _⟩, ⟨a1, k1, e1, _⟩, ⟨al, kl, el, _⟩⟩ := h
  exact ⟨a0, k0, a1, k1, al, kl, e0, e1, el⟩
def nnM : Pt := ⟨⟨#[78, 78, 112, 115, 107, 48]⟩, [], [], [(0, [7, 1]), (1, [1, 3])]⟩
theorem nnM_sl {S : Nat → Prop} {w : World} {v0 v1 vl : Value} (h : FtP S w v0 v1 vl nnM) : ∃ a0 k0 a1 k1 b o kl b2 o2 c2, v0 = .slice a0 0 k0 ∧ v1 = .slice a1 0 k1 ∧ vl = .slice (some ⟨b, o, none⟩) 2 kl ∧ ∀ W, Below w.heap.size w W → W.cell? ⟨b, o + 1, none⟩ = some (.slice (some ⟨b2, o2, none⟩) 2 c2) ∧ W.cell? ⟨b2, o2, none⟩ = some (.int .i64 7) := by
  have hr := h.2.2.rd
  obtain ⟨a0, k0, a1, k1, al, kl, rfl, rfl, rfl⟩ := ft_sl h
  obtain ⟨b, o, a2, n2, c2, rfl, hc, hn, rfl⟩ := hr.at (j := 0) (by decide)
  obtain ⟨_, _, hat⟩ := hn.at
  obtain ⟨b2, o2, rfl, hc2⟩ := hat 0 (by decide)
  exact ⟨_, _, _, _, b, o, kl, b2, o2, c2, rfl, rfl, rfl, fun W hW => ⟨(hc W hW).2, hc2 W hW⟩⟩
theorem sub_le' {q : Nat} {W w w' : World} (h : Below q W w) (hb : Below w.heap.size w w') (hq : q ≤ w.heap.size) : Below q W w' := h.trans (hb.mono hq)
end Go.Proofs.YtchnkpgkckadmabDoor
namespace Go.Proofs.YtchnkpgkckadmabDoor
set_option linter.unusedSimpArgs false
set_option linter.unusedVariables false
set_option maxRecDepth 100000
open Go.ChangeShapes Go.WideShapes Go.ChangeAt Go.RowKit Go.Pin Go.Pat Go.Deep
theorem aw_prs : nprs ⟨#[78, 111, 105, 115, 101, 95, 78, 78, 112, 115, 107, 48, 95, 50, 53, 53, 49, 57, 95, 67, 104, 97, 67, 104, 97, 80, 111, 108, 121, 95, 66, 76, 65, 75, 69, 50, 115]⟩ = (nnM, 0) := by kernel_rfl
set_option maxHeartbeats 8000000 in
theorem awake_any {ea : Int → Addr} (W : World) (hE : Errs ea W) :
    Calls Tryd.prog 4 #[] W fun e w' => e = .returned (.bool true) ∧ Below W.heap.size W w' := by
  have CP := nparse_any (ea := ea) ⟨#[78, 111, 105, 115, 101, 95, 78, 78, 112, 115, 107, 48, 95, 50, 53, 53, 49, 57, 95, 67, 104, 97, 67, 104, 97, 80, 111, 108, 121, 95, 66, 76, 65, 75, 69, 50, 115]⟩ W hE (by decide)
  unfold NpP at CP
  rw [aw_prs] at CP
  simp only [EV_0] at CP
  obtain ⟨q, hq⟩ : ∃ q, W.heap.size = q := ⟨_, rfl⟩
  have HQ : Hid (W.heap.size = q) := hq
  rw [hq] at CP ⊢
  clear hE
  go_enter Tryd.func4, Tryd.ntmps4
  go_upto_region 2 with (go_at_call 5; refine CP.mono ?_; rintro e w1 ⟨hb, v0, v1, vl, rfl, hf, -⟩; have hrd := hf.rd; obtain ⟨d0, m0, d1, m1, bl, ol, ml, b2, o2, m2, rfl, rfl, rfl, hM⟩ := nnM_sl hf; have H1 : Hid (Below q W w1 ∧ RdP w1 (.agg #[.string nnM.nm, .slice d0 0 m0, .slice d1 0 m1, .slice (some ⟨bl, ol, none⟩) 2 ml]) nnM) := ⟨hb, hrd⟩; have HM : Hid _ := hM; clear hb hf hM CP hrd)
  have hbx := bx_new w1 H1.out.2
  have ha : Below w1.heap.size w1 (w1.alloc (.cells #[.string nnM.nm, .slice d0 0 m0, .slice d1 0 m1, .slice (some ⟨bl, ol, none⟩) 2 ml] 29)) := (Below.refl _ _).alloc (Nat.le_refl _) _
  have hM := HM.out _ ha
  have hB : Below q W (w1.alloc (.cells #[.string nnM.nm, .slice d0 0 m0, .slice d1 0 m1, .slice (some ⟨bl, ol, none⟩) 2 ml] 29)) := sub_le' H1.out.1 ha (by have := H1.out.1.size; have := HQ.out; omega)
  obtain ⟨g, hg⟩ : ∃ g, w1.heap.size = g := ⟨_, rfl⟩
  obtain ⟨W2, hW2⟩ : ∃ W2, w1.alloc (.cells #[.string nnM.nm, .slice d0 0 m0, .slice d1 0 m1, .slice (some ⟨bl, ol, none⟩) 2 ml] 29) = W2 := ⟨_, rfl⟩
  simp only [hg, hW2] at hbx hM hB ⊢
  have hnm : (nnM.nm.toList == [78, 78, 112, 115, 107, 48]) = true := by decide +kernel
  have y0 := hbx.c0
  have y1 := hbx.c1
  have y2 := hbx.c2
  have y3 := hbx.c3
  have HB : Hid (Below q W W2) := hB
  obtain ⟨x0, x1⟩ := hM
  obtain ⟨nn, hnn⟩ : ∃ nn, nnM.nm = nn := ⟨_, rfl⟩
  rw [hnn] at y0 hnm ⊢
  clear hbx hB hW2 hg ha HM hnn
  go_wp2
  go_ret
  exact ⟨rfl, HB.out⟩
theorem prn_two (f : ByteArray) : ((nprs (hdN ++ f ++ tlN)).2 = 0 ∧ nprn f = (hdN ++ f ++ tlN, 0)) ∨ (nprs (hdN ++ f ++ tlN) = (zPt, 13) ∧ nprn f = (⟨#[]⟩, 13)) := by
  rcases nprs_two (hdN ++ f ++ tlN) with h | h
  · exact .inl ⟨h, by unfold nprn; rw [if_neg (by omega)]⟩
  · exact .inr ⟨h, by unfold nprn; rw [h]; rfl⟩
end Go.Proofs.YtchnkpgkckadmabDoor
