import Derived.OwnWalk
import Derived.Test.YtchnkpgkckadmabDoorMoag
namespace Go.Proofs.YtchnkpgkckadmabDoor
set_option linter.unusedSimpArgs false
set_option linter.unusedVariables false
set_option maxRecDepth 100000
open Go.ChangeShapes Go.WideShapes Go.ChangeAt Go.RowKit Go.Pin Go.Pat
abbrev nilS : Value := .slice none 0 0
theorem strTl' (s : ByteArray) : (s.toList == [95, 50, 53, 53, 49, 57, 95, 67, 104, 97, 67, 104, 97, 80, 111, 108, 121, 95, 66, 76, 65, 75, 69, 50, 115]) = decide (s = tlN) := by
  rw [Bool.eq_iff_iff, beq_iff_eq, decide_eq_true_iff]
  constructor
  · intro h
    refine toL_inj ?_
    show s.data.toList = _
    rw [Go.ByteArray.toList_eq] at h
    exact h
  · intro h
    rw [h, Go.ByteArray.toList_eq]
    rfl
def SpP (t : ByteArray) (q : Nat) (W : World) (e : Ending) (w' : World) : Prop := Below q W w' ∧ match nspL (toL t) with
  | none => e = .returned (.tuple #[.string ⟨#[]⟩, nilS, .bool false])
  | some (b, ws) => ∃ (B : ByteArray) (L : List ByteArray) (v : Value), toL B = b ∧ L.map toL = ws ∧ e = .returned (.tuple #[.string B, v, .bool true]) ∧ w'.ownsRow q 9 1 v L.length (L.map Value.string)
/-- what holds at each label -/
def SS (t : ByteArray) (q : Nat) (w : World) (b wv av fv : Value) : Nat → Prop
  | 1 => ∃ i : Nat, i ≤ 6 ∧ i ≤ t.size ∧ av = .int .i64 i ∧ fv = .int .i64 0 ∧ b = .string ⟨#[]⟩ ∧ wv = nilS ∧ (toL t).take i = (toL hdN).take i
  | 0 => ∃ i : Nat, 6 ≤ i ∧ i ≤ t.size ∧ av = .int .i64 i ∧ fv = .int .i64 0 ∧ b = .string ⟨#[]⟩ ∧ wv = nilS ∧ (toL t).take 6 = toL hdN ∧ ∀ j, j < i - 6 → up8 (((toL t).drop 6).getD j 0) = true
  | 3 => ∃ (i f : Nat) (B : ByteArray) (L : List ByteArray), f ≤ i ∧ i ≤ t.size ∧ av = .int .i64 i ∧ fv = .int .i64 f ∧ b = .string B ∧ w.ownsRow q 9 1 wv L.length (L.map Value.string) ∧ L.length ≤ f ∧ headSm ((toL t).drop f) = true ∧ (∀ j, j < i - f → lo8 (((toL t).drop f).getD j 0) = true) ∧ nspL (toL t) = contW B L ((toL t).drop f)
  | 5 => ∃ (i f : Nat) (B : ByteArray) (L : List ByteArray), i < t.size ∧ av = .int .i64 i ∧ fv = .int .i64 f ∧ b = .string B ∧ w.ownsRow q 9 1 wv L.length (L.map Value.string) ∧ L.length ≤ i + 1 ∧ nspL (toL t) = if headSm ((toL t).drop (i + 1)) = true then contW B L ((toL t).drop (i + 1)) else none
  | 4 => ∃ (i f : Nat) (B : ByteArray) (L : List ByteArray), i ≤ t.size ∧ av = .int .i64 i ∧ fv = .int .i64 f ∧ b = .string B ∧ w.ownsRow q 9 1 wv L.length (L.map Value.string) ∧ nspL (toL t) = if (toL t).drop i = toL tlN then some (toL B, L.map toL) else none
  | 2 => (∃ i : Nat, av = .int .i64 i) ∧ nspL (toL t) = none
  | _ => False
def SJ (t : ByteArray) (q : Nat) (W : World) (l : Nat) (a : Act) (w : World) : Prop :=
  Below q W w ∧ ∃ b wv av fv : Value, SS t q w b wv av fv l ∧ ∃ u1 u4 u7 u8 u9 u10 u11 u12 u13 u14 u15 u16 u17 u18 u19 u20 u21 u22 u23 u24 u25 u26 u27 u28 u29 u30 u31 u32 u33 u34 u35 u36 u37 u38 u39 u40 u41 u42 u43 u44 u45 u46 u47 u48 u49 u50 u51 u52 u53 u54 u55 u56 u57 u58 u59 u60 u61 u62 u63 u64 u65 u66 u67 u68 u69 u70 u71 u72 : Value, a = { tmps := #[.string t, u1, b, wv, u4, av, fv, u7, u8, u9, u10, u11, u12, u13, u14, u15, u16, u17, u18, u19, u20, u21, u22, u23, u24, u25, u26, u27, u28, u29, u30, u31, u32, u33, u34, u35, u36, u37, u38, u39, u40, u41, u42, u43, u44, u45, u46, u47, u48, u49, u50, u51, u52, u53, u54, u55, u56, u57, u58, u59, u60, u61, u62, u63, u64, u65, u66, u67, u68, u69, u70, u71, u72], defers := [] }
def SM (t : ByteArray) (l : Nat) (a : Act) (w : World) : Nat := 10 * (t.size + 2 - (intOf (a.tmps.getD 5 undef)).toNat) + (match l with | 1 => 5 | 0 => 4 | 3 => 3 | 5 => 2 | 4 => 1 | _ => 0)
set_option maxHeartbeats 8000000 in
theorem nsplit_any (t : ByteArray) (W : World) (ht : t.size ≤ 1000) :
    Calls Tryd.prog 6 #[.string t] W (SpP t W.heap.size W) := by
  obtain ⟨q, hq⟩ : ∃ q, W.heap.size = q := ⟨_, rfl⟩
  rw [hq]
  have CB := fun (i : Nat) => byteAt_any t i
  obtain ⟨n, hn⟩ : ∃ n, t.size = n := ⟨_, rfl⟩
  have HN : Hid (t.size = n ∧ n ≤ 1000) := ⟨hn, by omega⟩
  clear ht
  go_enter Tryd.func6, Tryd.ntmps6
  go_wp2
  refine wp_scope_six (SJ t q W) (SM t) rfl rfl rfl rfl rfl rfl (fun l a w h => ?_) ?_ ?_ ?_ ?_ ?_ ?_ ?_
  · obtain ⟨_, b, wv, av, fv, h, _⟩ := h
    match l, h with
    | 0, _ => exact by decide
    | 1, _ => exact by decide
    | 2, _ => exact by decide
    | 3, _ => exact by decide
    | 4, _ => exact by decide
    | 5, _ => exact by decide
    | l + 6, h => exact h.elim
  · as_aux_lemma =>
      have HB : Hid (Below q W W) := Below.refl _ _
      have htk : (toL t).take 0 = (toL hdN).take 0 := rfl
      go_wp2
      go_step3
      have CBi : ∀ W, Calls Tryd.prog 9 #[.string t, .int .i64 0] W fun e w' => e = .returned (.int .u8 (byt t 0)) ∧ w' = W := fun W => CB 0 W
      obtain ⟨c, hc⟩ : ∃ c, byt t 0 = c := ⟨_, rfl⟩
      rw [hc] at CBi
      by_cases h1 : c = 78
      · have HT : Hid _ := hd_step (t := t) (i := 0) (by decide) htk (by rw [hc, h1]; rfl)
        have e1 : ((c : Int) == 78) = true := by rw [h1]; rfl
        have e2 : ((c : Int) != (((⟨#[78, 111, 105, 115, 101, 95]⟩ : ByteArray)[0]).toNat : Int)) = false := by rw [h1]; rfl
        clear h1 hc htk
        go_wp2
        refine Go.Pin.wp_region_cls (fun Y => Below q W Y) (by kernel_rfl) (by kernel_rfl) (HB.out.drew) ?_
        intro Sq fq hNq hRq hSq
        have CF := fun x => CBi (fq x)
        repeat (go_big_quiet_step (exact (CF _).mono (fun e w' h => ⟨h.1, hSq _ (by rw [h.2]; exact hRq _)⟩)))
        refine wpQuiet_nil ?_
        intro _ hw'
        obtain ⟨xq, hw''⟩ := hw'
        subst hw''
        have HYq := hRq xq
        generalize fq xq = Y at HYq ⊢
        clear hRq hSq hNq xq fq Sq CF
        have HY : Hid (Below q W Y) := HYq
        clear HYq
        go_wp2
        go_step3
        exact ⟨HY.out, _, _, _, _, ⟨1, by decide, by have := HT.out.1; omega, rfl, rfl, rfl, rfl, HT.out.2⟩, _, _, _, _, _, _, _, _, _, _, _, _, _, _, _, _, _, _, _, _, _, _, _, _, _, _, _, _, _, _, _, _, _, _, _, _, _, _, _, _, _, _, _, _, _, _, _, _, _, _, _, _, _, _, _, _, _, _, _, _, _, _, _, _, _, _, _, _, rfl⟩
      · have HT : Hid (nspL (toL t) = none) := hd_no (i := 0) (by decide) (by rw [hc]; exact h1)
        have h2 : ¬ (c : Int) = 78 := by omega
        have e1 : ((c : Int) == 78) = false := by simpa using h2
        have e2 : ((c : Int) != (((⟨#[78, 111, 105, 115, 101, 95]⟩ : ByteArray)[0]).toNat : Int)) = true := by show ((c : Int) != 78) = true; simpa using h2
        clear h1 h2 hc htk
        go_wp2
        refine Go.Pin.wp_region_cls (fun Y => Below q W Y) (by kernel_rfl) (by kernel_rfl) (HB.out.drew) ?_
        intro Sq fq hNq hRq hSq
        have CF := fun x => CBi (fq x)
        repeat (go_big_quiet_step (exact (CF _).mono (fun e w' h => ⟨h.1, hSq _ (by rw [h.2]; exact hRq _)⟩)))
        refine wpQuiet_nil ?_
        intro _ hw'
        obtain ⟨xq, hw''⟩ := hw'
        subst hw''
        have HYq := hRq xq
        generalize fq xq = Y at HYq ⊢
        clear hRq hSq hNq xq fq Sq CF
        have HY : Hid (Below q W Y) := HYq
        clear HYq
        go_wp2
        go_step3
        exact ⟨HY.out, _, _, _, _, ⟨⟨0, rfl⟩, HT.out⟩, _, _, _, _, _, _, _, _, _, _, _, _, _, _, _, _, _, _, _, _, _, _, _, _, _, _, _, _, _, _, _, _, _, _, _, _, _, _, _, _, _, _, _, _, _, _, _, _, _, _, _, _, _, _, _, _, _, _, _, _, _, _, _, _, _, _, _, _, rfl⟩
  · as_aux_lemma =>
      rintro a wr ⟨hb, b, wv, av, fv, ⟨i, hi6, hit, rfl, rfl, rfl, rfl, h6, hrun⟩, u1, u4, u7, u8, u9, u10, u11, u12, u13, u14, u15, u16, u17, u18, u19, u20, u21, u22, u23, u24, u25, u26, u27, u28, u29, u30, u31, u32, u33, u34, u35, u36, u37, u38, u39, u40, u41, u42, u43, u44, u45, u46, u47, u48, u49, u50, u51, u52, u53, u54, u55, u56, u57, u58, u59, u60, u61, u62, u63, u64, u65, u66, u67, u68, u69, u70, u71, u72, rfl⟩
      have HB : Hid (Below q W wr) := hb
      obtain ⟨c, hc⟩ : ∃ c, byt t i = c := ⟨_, rfl⟩
      have CBi := CB i
      rw [hc] at CBi
      have CC := isCapital_any c
      have CD := isDigit_any c
      have CS := isSmall_any c
      have bi : (i : Int) ≤ 1000 := by have := HN.out; omega
      have bj : (0 : Int) ≤ (i : Int) := by omega
      have HI : Hid (6 ≤ i ∧ i ≤ t.size ∧ (toL t).take 6 = toL hdN ∧ (∀ j, j < i - 6 → up8 (((toL t).drop 6).getD j 0) = true) ∧ byt t i = c) := ⟨hi6, hit, h6, hrun, hc⟩
      have HUP : Hid (upB c = true → i < t.size ∧ ∀ j, j < i + 1 - 6 → up8 (((toL t).drop 6).getD j 0) = true) := fun h => by
        rw [← hc] at h
        exact ⟨in_up h, run_step (f := up8) hi6 hrun h⟩
      have HEN : Hid (upB c = false → _) := fun h => base_end h6 hi6 hit hrun (by rw [hc]; exact h)
      clear hb hrun h6 hc
      by_cases h1 : cpB c = true
      · rw [h1] at CC
        have HU : Hid (upB c = true) := by show upB c = true; rw [upB_or, h1]; rfl
        clear HEN CD CS h1 hi6 hit
        go_wp2_with (first | (go_at_call 9; refine (CBi _).mono ?_; rintro e wa ⟨rfl, hwa⟩; obtain rfl := hwa.symm) | (go_at_call 10; refine (CC _).mono ?_; rintro e wa ⟨rfl, hwa⟩; obtain rfl := hwa.symm) | (go_at_call 11; refine (CD _).mono ?_; rintro e wa ⟨rfl, hwa⟩; obtain rfl := hwa.symm) | (go_at_call 12; refine (CS _).mono ?_; rintro e wa ⟨rfl, hwa⟩; obtain rfl := hwa.symm))
        go_step3
        refine ⟨⟨HB.out, _, _, _, _, ⟨i + 1, by have := HI.out; omega, by have := (HUP.out HU.out).1; omega, congrArg (Value.int .i64) (Int.natCast_succ i).symm, rfl, rfl, rfl, HI.out.2.2.1, (HUP.out HU.out).2⟩, _, _, _, _, _, _, _, _, _, _, _, _, _, _, _, _, _, _, _, _, _, _, _, _, _, _, _, _, _, _, _, _, _, _, _, _, _, _, _, _, _, _, _, _, _, _, _, _, _, _, _, _, _, _, _, _, _, _, _, _, _, _, _, _, _, _, _, _, rfl⟩, ?_⟩
        have h1 := (HUP.out HU.out).1
        show 10 * (t.size + 2 - ((i : Int) + 1).toNat) + 4 < 10 * (t.size + 2 - (i : Int).toNat) + 4
        omega
      have h1' : cpB c = false := by simpa using h1
      rw [h1'] at CC
      by_cases h2 : dgB c = true
      · rw [h2] at CD
        have HU : Hid (upB c = true) := by show upB c = true; rw [upB_or, h1', h2]; rfl
        clear HEN CS h1 h1' h2 hi6 hit
        go_wp2_with (first | (go_at_call 9; refine (CBi _).mono ?_; rintro e wa ⟨rfl, hwa⟩; obtain rfl := hwa.symm) | (go_at_call 10; refine (CC _).mono ?_; rintro e wa ⟨rfl, hwa⟩; obtain rfl := hwa.symm) | (go_at_call 11; refine (CD _).mono ?_; rintro e wa ⟨rfl, hwa⟩; obtain rfl := hwa.symm) | (go_at_call 12; refine (CS _).mono ?_; rintro e wa ⟨rfl, hwa⟩; obtain rfl := hwa.symm))
        go_step3
        refine ⟨⟨HB.out, _, _, _, _, ⟨i + 1, by have := HI.out; omega, by have := (HUP.out HU.out).1; omega, congrArg (Value.int .i64) (Int.natCast_succ i).symm, rfl, rfl, rfl, HI.out.2.2.1, (HUP.out HU.out).2⟩, _, _, _, _, _, _, _, _, _, _, _, _, _, _, _, _, _, _, _, _, _, _, _, _, _, _, _, _, _, _, _, _, _, _, _, _, _, _, _, _, _, _, _, _, _, _, _, _, _, _, _, _, _, _, _, _, _, _, _, _, _, _, _, _, _, _, _, _, rfl⟩, ?_⟩
        have h1 := (HUP.out HU.out).1
        show 10 * (t.size + 2 - ((i : Int) + 1).toNat) + 4 < 10 * (t.size + 2 - (i : Int).toNat) + 4
        omega
      have h2' : dgB c = false := by simpa using h2
      rw [h2'] at CD
      have HE : Hid _ := HEN.out (by rw [upB_or, h1', h2']; rfl)
      have a1 : (6 : Int) ≤ (i : Int) := by omega
      have a2 : (i : Int) ≤ (t.size : Int) := by omega
      have a3 : (i : Int) ≤ (n : Int) := by have := HN.out; omega
      by_cases h3 : smB c = true
      · rw [h3] at CS
        have HX : Hid (nspL (toL t) = contW (t.extract 6 i) [] ((toL t).drop i)) := HE.out.1 (by rw [HI.out.2.2.2.2]; exact h3)
        have HS : Hid (headSm ((toL t).drop i) = true) := by show headSm ((toL t).drop i) = true; rw [headSm_byt, HI.out.2.2.2.2]; exact h3
        clear HEN HE HUP h1 h1' h2 h2' h3 hi6 hit
        go_wp2_with (first | (go_at_call 9; refine (CBi _).mono ?_; rintro e wa ⟨rfl, hwa⟩; obtain rfl := hwa.symm) | (go_at_call 10; refine (CC _).mono ?_; rintro e wa ⟨rfl, hwa⟩; obtain rfl := hwa.symm) | (go_at_call 11; refine (CD _).mono ?_; rintro e wa ⟨rfl, hwa⟩; obtain rfl := hwa.symm) | (go_at_call 12; refine (CS _).mono ?_; rintro e wa ⟨rfl, hwa⟩; obtain rfl := hwa.symm))
        go_step3
        refine ⟨⟨HB.out, _, _, _, _, ⟨i, i, t.extract 6 i, [], Nat.le_refl _, HI.out.2.1, rfl, rfl, rfl, own_nil0 _ _ _ _, Nat.zero_le _, HS.out, fun j hj => by omega, HX.out⟩, _, _, _, _, _, _, _, _, _, _, _, _, _, _, _, _, _, _, _, _, _, _, _, _, _, _, _, _, _, _, _, _, _, _, _, _, _, _, _, _, _, _, _, _, _, _, _, _, _, _, _, _, _, _, _, _, _, _, _, _, _, _, _, _, _, _, _, _, rfl⟩, ?_⟩
        show 10 * (t.size + 2 - (i : Int).toNat) + 3 < 10 * (t.size + 2 - (i : Int).toNat) + 4
        omega
      · have h3' : smB c = false := by simpa using h3
        rw [h3'] at CS
        have HX : Hid (nspL (toL t) = if (toL t).drop i = toL tlN then some (toL (t.extract 6 i), []) else none) := HE.out.2 (by rw [HI.out.2.2.2.2]; exact h3')
        clear HEN HE HUP h1 h1' h2 h2' h3 h3' hi6 hit
        go_wp2_with (first | (go_at_call 9; refine (CBi _).mono ?_; rintro e wa ⟨rfl, hwa⟩; obtain rfl := hwa.symm) | (go_at_call 10; refine (CC _).mono ?_; rintro e wa ⟨rfl, hwa⟩; obtain rfl := hwa.symm) | (go_at_call 11; refine (CD _).mono ?_; rintro e wa ⟨rfl, hwa⟩; obtain rfl := hwa.symm) | (go_at_call 12; refine (CS _).mono ?_; rintro e wa ⟨rfl, hwa⟩; obtain rfl := hwa.symm))
        go_step3
        refine ⟨⟨HB.out, _, _, _, _, ⟨i, i, t.extract 6 i, [], HI.out.2.1, rfl, rfl, rfl, own_nil0 _ _ _ _, HX.out⟩, _, _, _, _, _, _, _, _, _, _, _, _, _, _, _, _, _, _, _, _, _, _, _, _, _, _, _, _, _, _, _, _, _, _, _, _, _, _, _, _, _, _, _, _, _, _, _, _, _, _, _, _, _, _, _, _, _, _, _, _, _, _, _, _, _, _, _, _, rfl⟩, ?_⟩
        show 10 * (t.size + 2 - (i : Int).toNat) + 1 < 10 * (t.size + 2 - (i : Int).toNat) + 4
        omega
  · as_aux_lemma =>
      rintro a wr ⟨hb, b, wv, av, fv, ⟨i, hi6, hit, hav, rfl, rfl, rfl, htk⟩, u1, u4, u7, u8, u9, u10, u11, u12, u13, u14, u15, u16, u17, u18, u19, u20, u21, u22, u23, u24, u25, u26, u27, u28, u29, u30, u31, u32, u33, u34, u35, u36, u37, u38, u39, u40, u41, u42, u43, u44, u45, u46, u47, u48, u49, u50, u51, u52, u53, u54, u55, u56, u57, u58, u59, u60, u61, u62, u63, u64, u65, u66, u67, u68, u69, u70, u71, u72, rfl⟩
      have HB : Hid (Below q W wr) := hb
      clear hb
      rcases (by omega : i = 0 ∨ i = 1 ∨ i = 2 ∨ i = 3 ∨ i = 4 ∨ i = 5 ∨ i = 6) with rfl | rfl | rfl | rfl | rfl | rfl | rfl
      · obtain rfl : av = .int .i64 0 := hav
        have CBi : ∀ W, Calls Tryd.prog 9 #[.string t, .int .i64 0] W fun e w' => e = .returned (.int .u8 (byt t 0)) ∧ w' = W := fun W => CB 0 W
        obtain ⟨c, hc⟩ : ∃ c, byt t 0 = c := ⟨_, rfl⟩
        rw [hc] at CBi
        by_cases h1 : c = 78
        · have HT : Hid _ := hd_step (t := t) (i := 0) (by decide) htk (by rw [hc, h1]; rfl)
          have e1 : ((c : Int) == 78) = true := by rw [h1]; rfl
          have e2 : ((c : Int) != (((⟨#[78, 111, 105, 115, 101, 95]⟩ : ByteArray)[0]).toNat : Int)) = false := by rw [h1]; rfl
          clear h1 hc htk
          go_wp2
          refine Go.Pin.wp_region_cls (fun Y => Below q W Y) (by kernel_rfl) (by kernel_rfl) (HB.out.drew) ?_
          intro Sq fq hNq hRq hSq
          have CF := fun x => CBi (fq x)
          repeat (go_big_quiet_step (exact (CF _).mono (fun e w' h => ⟨h.1, hSq _ (by rw [h.2]; exact hRq _)⟩)))
          refine wpQuiet_nil ?_
          intro _ hw'
          obtain ⟨xq, hw''⟩ := hw'
          subst hw''
          have HYq := hRq xq
          generalize fq xq = Y at HYq ⊢
          clear hRq hSq hNq xq fq Sq CF
          have HY : Hid (Below q W Y) := HYq
          clear HYq
          go_wp2
          go_step3
          refine ⟨⟨HY.out, _, _, _, _, ⟨1, by decide, by have := HT.out.1; omega, rfl, rfl, rfl, rfl, HT.out.2⟩, _, _, _, _, _, _, _, _, _, _, _, _, _, _, _, _, _, _, _, _, _, _, _, _, _, _, _, _, _, _, _, _, _, _, _, _, _, _, _, _, _, _, _, _, _, _, _, _, _, _, _, _, _, _, _, _, _, _, _, _, _, _, _, _, _, _, _, _, rfl⟩, ?_⟩
          have h1 := HT.out.1
          show 10 * (t.size + 2 - ((0 : Int) + 1).toNat) + 5 < 10 * (t.size + 2 - (0 : Int).toNat) + 5
          omega
        · have HT : Hid (nspL (toL t) = none) := hd_no (i := 0) (by decide) (by rw [hc]; exact h1)
          have h2 : ¬ (c : Int) = 78 := by omega
          have e1 : ((c : Int) == 78) = false := by simpa using h2
          have e2 : ((c : Int) != (((⟨#[78, 111, 105, 115, 101, 95]⟩ : ByteArray)[0]).toNat : Int)) = true := by show ((c : Int) != 78) = true; simpa using h2
          clear h1 h2 hc htk
          go_wp2
          refine Go.Pin.wp_region_cls (fun Y => Below q W Y) (by kernel_rfl) (by kernel_rfl) (HB.out.drew) ?_
          intro Sq fq hNq hRq hSq
          have CF := fun x => CBi (fq x)
          repeat (go_big_quiet_step (exact (CF _).mono (fun e w' h => ⟨h.1, hSq _ (by rw [h.2]; exact hRq _)⟩)))
          refine wpQuiet_nil ?_
          intro _ hw'
          obtain ⟨xq, hw''⟩ := hw'
          subst hw''
          have HYq := hRq xq
          generalize fq xq = Y at HYq ⊢
          clear hRq hSq hNq xq fq Sq CF
          have HY : Hid (Below q W Y) := HYq
          clear HYq
          go_wp2
          go_step3
          refine ⟨⟨HY.out, _, _, _, _, ⟨⟨0, rfl⟩, HT.out⟩, _, _, _, _, _, _, _, _, _, _, _, _, _, _, _, _, _, _, _, _, _, _, _, _, _, _, _, _, _, _, _, _, _, _, _, _, _, _, _, _, _, _, _, _, _, _, _, _, _, _, _, _, _, _, _, _, _, _, _, _, _, _, _, _, _, _, _, _, rfl⟩, ?_⟩
          show 10 * (t.size + 2 - (0 : Int).toNat) + 0 < 10 * (t.size + 2 - (0 : Int).toNat) + 5
          omega
      · obtain rfl : av = .int .i64 1 := hav
        have CBi : ∀ W, Calls Tryd.prog 9 #[.string t, .int .i64 1] W fun e w' => e = .returned (.int .u8 (byt t 1)) ∧ w' = W := fun W => CB 1 W
        obtain ⟨c, hc⟩ : ∃ c, byt t 1 = c := ⟨_, rfl⟩
        rw [hc] at CBi
        by_cases h1 : c = 111
        · have HT : Hid _ := hd_step (t := t) (i := 1) (by decide) htk (by rw [hc, h1]; rfl)
          have e1 : ((c : Int) == 111) = true := by rw [h1]; rfl
          have e2 : ((c : Int) != (((⟨#[78, 111, 105, 115, 101, 95]⟩ : ByteArray)[1]).toNat : Int)) = false := by rw [h1]; rfl
          clear h1 hc htk
          go_wp2
          refine Go.Pin.wp_region_cls (fun Y => Below q W Y) (by kernel_rfl) (by kernel_rfl) (HB.out.drew) ?_
          intro Sq fq hNq hRq hSq
          have CF := fun x => CBi (fq x)
          repeat (go_big_quiet_step (exact (CF _).mono (fun e w' h => ⟨h.1, hSq _ (by rw [h.2]; exact hRq _)⟩)))
          refine wpQuiet_nil ?_
          intro _ hw'
          obtain ⟨xq, hw''⟩ := hw'
          subst hw''
          have HYq := hRq xq
          generalize fq xq = Y at HYq ⊢
          clear hRq hSq hNq xq fq Sq CF
          have HY : Hid (Below q W Y) := HYq
          clear HYq
          go_wp2
          go_step3
          refine ⟨⟨HY.out, _, _, _, _, ⟨2, by decide, by have := HT.out.1; omega, rfl, rfl, rfl, rfl, HT.out.2⟩, _, _, _, _, _, _, _, _, _, _, _, _, _, _, _, _, _, _, _, _, _, _, _, _, _, _, _, _, _, _, _, _, _, _, _, _, _, _, _, _, _, _, _, _, _, _, _, _, _, _, _, _, _, _, _, _, _, _, _, _, _, _, _, _, _, _, _, _, rfl⟩, ?_⟩
          have h1 := HT.out.1
          show 10 * (t.size + 2 - ((1 : Int) + 1).toNat) + 5 < 10 * (t.size + 2 - (1 : Int).toNat) + 5
          omega
        · have HT : Hid (nspL (toL t) = none) := hd_no (i := 1) (by decide) (by rw [hc]; exact h1)
          have h2 : ¬ (c : Int) = 111 := by omega
          have e1 : ((c : Int) == 111) = false := by simpa using h2
          have e2 : ((c : Int) != (((⟨#[78, 111, 105, 115, 101, 95]⟩ : ByteArray)[1]).toNat : Int)) = true := by show ((c : Int) != 111) = true; simpa using h2
          clear h1 h2 hc htk
          go_wp2
          refine Go.Pin.wp_region_cls (fun Y => Below q W Y) (by kernel_rfl) (by kernel_rfl) (HB.out.drew) ?_
          intro Sq fq hNq hRq hSq
          have CF := fun x => CBi (fq x)
          repeat (go_big_quiet_step (exact (CF _).mono (fun e w' h => ⟨h.1, hSq _ (by rw [h.2]; exact hRq _)⟩)))
          refine wpQuiet_nil ?_
          intro _ hw'
          obtain ⟨xq, hw''⟩ := hw'
          subst hw''
          have HYq := hRq xq
          generalize fq xq = Y at HYq ⊢
          clear hRq hSq hNq xq fq Sq CF
          have HY : Hid (Below q W Y) := HYq
          clear HYq
          go_wp2
          go_step3
          refine ⟨⟨HY.out, _, _, _, _, ⟨⟨1, rfl⟩, HT.out⟩, _, _, _, _, _, _, _, _, _, _, _, _, _, _, _, _, _, _, _, _, _, _, _, _, _, _, _, _, _, _, _, _, _, _, _, _, _, _, _, _, _, _, _, _, _, _, _, _, _, _, _, _, _, _, _, _, _, _, _, _, _, _, _, _, _, _, _, _, rfl⟩, ?_⟩
          show 10 * (t.size + 2 - (1 : Int).toNat) + 0 < 10 * (t.size + 2 - (1 : Int).toNat) + 5
          omega
      · obtain rfl : av = .int .i64 2 := hav
        have CBi : ∀ W, Calls Tryd.prog 9 #[.string t, .int .i64 2] W fun e w' => e = .returned (.int .u8 (byt t 2)) ∧ w' = W := fun W => CB 2 W
        obtain ⟨c, hc⟩ : ∃ c, byt t 2 = c := ⟨_, rfl⟩
        rw [hc] at CBi
        by_cases h1 : c = 105
        · have HT : Hid _ := hd_step (t := t) (i := 2) (by decide) htk (by rw [hc, h1]; rfl)
          have e1 : ((c : Int) == 105) = true := by rw [h1]; rfl
          have e2 : ((c : Int) != (((⟨#[78, 111, 105, 115, 101, 95]⟩ : ByteArray)[2]).toNat : Int)) = false := by rw [h1]; rfl
          clear h1 hc htk
          go_wp2
          refine Go.Pin.wp_region_cls (fun Y => Below q W Y) (by kernel_rfl) (by kernel_rfl) (HB.out.drew) ?_
          intro Sq fq hNq hRq hSq
          have CF := fun x => CBi (fq x)
          repeat (go_big_quiet_step (exact (CF _).mono (fun e w' h => ⟨h.1, hSq _ (by rw [h.2]; exact hRq _)⟩)))
          refine wpQuiet_nil ?_
          intro _ hw'
          obtain ⟨xq, hw''⟩ := hw'
          subst hw''
          have HYq := hRq xq
          generalize fq xq = Y at HYq ⊢
          clear hRq hSq hNq xq fq Sq CF
          have HY : Hid (Below q W Y) := HYq
          clear HYq
          go_wp2
          go_step3
          refine ⟨⟨HY.out, _, _, _, _, ⟨3, by decide, by have := HT.out.1; omega, rfl, rfl, rfl, rfl, HT.out.2⟩, _, _, _, _, _, _, _, _, _, _, _, _, _, _, _, _, _, _, _, _, _, _, _, _, _, _, _, _, _, _, _, _, _, _, _, _, _, _, _, _, _, _, _, _, _, _, _, _, _, _, _, _, _, _, _, _, _, _, _, _, _, _, _, _, _, _, _, _, rfl⟩, ?_⟩
          have h1 := HT.out.1
          show 10 * (t.size + 2 - ((2 : Int) + 1).toNat) + 5 < 10 * (t.size + 2 - (2 : Int).toNat) + 5
          omega
        · have HT : Hid (nspL (toL t) = none) := hd_no (i := 2) (by decide) (by rw [hc]; exact h1)
          have h2 : ¬ (c : Int) = 105 := by omega
          have e1 : ((c : Int) == 105) = false := by simpa using h2
          have e2 : ((c : Int) != (((⟨#[78, 111, 105, 115, 101, 95]⟩ : ByteArray)[2]).toNat : Int)) = true := by show ((c : Int) != 105) = true; simpa using h2
          clear h1 h2 hc htk
          go_wp2
          refine Go.Pin.wp_region_cls (fun Y => Below q W Y) (by kernel_rfl) (by kernel_rfl) (HB.out.drew) ?_
          intro Sq fq hNq hRq hSq
          have CF := fun x => CBi (fq x)
          repeat (go_big_quiet_step (exact (CF _).mono (fun e w' h => ⟨h.1, hSq _ (by rw [h.2]; exact hRq _)⟩)))
          refine wpQuiet_nil ?_
          intro _ hw'
          obtain ⟨xq, hw''⟩ := hw'
          subst hw''
          have HYq := hRq xq
          generalize fq xq = Y at HYq ⊢
          clear hRq hSq hNq xq fq Sq CF
          have HY : Hid (Below q W Y) := HYq
          clear HYq
          go_wp2
          go_step3
          refine ⟨⟨HY.out, _, _, _, _, ⟨⟨2, rfl⟩, HT.out⟩, _, _, _, _, _, _, _, _, _, _, _, _, _, _, _, _, _, _, _, _, _, _, _, _, _, _, _, _, _, _, _, _, _, _, _, _, _, _, _, _, _, _, _, _, _, _, _, _, _, _, _, _, _, _, _, _, _, _, _, _, _, _, _, _, _, _, _, _, rfl⟩, ?_⟩
          show 10 * (t.size + 2 - (2 : Int).toNat) + 0 < 10 * (t.size + 2 - (2 : Int).toNat) + 5
          omega
      · obtain rfl : av = .int .i64 3 := hav
        have CBi : ∀ W, Calls Tryd.prog 9 #[.string t, .int .i64 3] W fun e w' => e = .returned (.int .u8 (byt t 3)) ∧ w' = W := fun W => CB 3 W
        obtain ⟨c, hc⟩ : ∃ c, byt t 3 = c := ⟨_, rfl⟩
        rw [hc] at CBi
        by_cases h1 : c = 115
        · have HT : Hid _ := hd_step (t := t) (i := 3) (by decide) htk (by rw [hc, h1]; rfl)
          have e1 : ((c : Int) == 115) = true := by rw [h1]; rfl
          have e2 : ((c : Int) != (((⟨#[78, 111, 105, 115, 101, 95]⟩ : ByteArray)[3]).toNat : Int)) = false := by rw [h1]; rfl
          clear h1 hc htk
          go_wp2
          refine Go.Pin.wp_region_cls (fun Y => Below q W Y) (by kernel_rfl) (by kernel_rfl) (HB.out.drew) ?_
          intro Sq fq hNq hRq hSq
          have CF := fun x => CBi (fq x)
          repeat (go_big_quiet_step (exact (CF _).mono (fun e w' h => ⟨h.1, hSq _ (by rw [h.2]; exact hRq _)⟩)))
          refine wpQuiet_nil ?_
          intro _ hw'
          obtain ⟨xq, hw''⟩ := hw'
          subst hw''
          have HYq := hRq xq
          generalize fq xq = Y at HYq ⊢
          clear hRq hSq hNq xq fq Sq CF
          have HY : Hid (Below q W Y) := HYq
          clear HYq
          go_wp2
          go_step3
          refine ⟨⟨HY.out, _, _, _, _, ⟨4, by decide, by have := HT.out.1; omega, rfl, rfl, rfl, rfl, HT.out.2⟩, _, _, _, _, _, _, _, _, _, _, _, _, _, _, _, _, _, _, _, _, _, _, _, _, _, _, _, _, _, _, _, _, _, _, _, _, _, _, _, _, _, _, _, _, _, _, _, _, _, _, _, _, _, _, _, _, _, _, _, _, _, _, _, _, _, _, _, _, rfl⟩, ?_⟩
          have h1 := HT.out.1
          show 10 * (t.size + 2 - ((3 : Int) + 1).toNat) + 5 < 10 * (t.size + 2 - (3 : Int).toNat) + 5
          omega
        · have HT : Hid (nspL (toL t) = none) := hd_no (i := 3) (by decide) (by rw [hc]; exact h1)
          have h2 : ¬ (c : Int) = 115 := by omega
          have e1 : ((c : Int) == 115) = false := by simpa using h2
          have e2 : ((c : Int) != (((⟨#[78, 111, 105, 115, 101, 95]⟩ : ByteArray)[3]).toNat : Int)) = true := by show ((c : Int) != 115) = true; simpa using h2
          clear h1 h2 hc htk
          go_wp2
          refine Go.Pin.wp_region_cls (fun Y => Below q W Y) (by kernel_rfl) (by kernel_rfl) (HB.out.drew) ?_
          intro Sq fq hNq hRq hSq
          have CF := fun x => CBi (fq x)
          repeat (go_big_quiet_step (exact (CF _).mono (fun e w' h => ⟨h.1, hSq _ (by rw [h.2]; exact hRq _)⟩)))
          refine wpQuiet_nil ?_
          intro _ hw'
          obtain ⟨xq, hw''⟩ := hw'
          subst hw''
          have HYq := hRq xq
          generalize fq xq = Y at HYq ⊢
          clear hRq hSq hNq xq fq Sq CF
          have HY : Hid (Below q W Y) := HYq
          clear HYq
          go_wp2
          go_step3
          refine ⟨⟨HY.out, _, _, _, _, ⟨⟨3, rfl⟩, HT.out⟩, _, _, _, _, _, _, _, _, _, _, _, _, _, _, _, _, _, _, _, _, _, _, _, _, _, _, _, _, _, _, _, _, _, _, _, _, _, _, _, _, _, _, _, _, _, _, _, _, _, _, _, _, _, _, _, _, _, _, _, _, _, _, _, _, _, _, _, _, rfl⟩, ?_⟩
          show 10 * (t.size + 2 - (3 : Int).toNat) + 0 < 10 * (t.size + 2 - (3 : Int).toNat) + 5
          omega
      · obtain rfl : av = .int .i64 4 := hav
        have CBi : ∀ W, Calls Tryd.prog 9 #[.string t, .int .i64 4] W fun e w' => e = .returned (.int .u8 (byt t 4)) ∧ w' = W := fun W => CB 4 W
        obtain ⟨c, hc⟩ : ∃ c, byt t 4 = c := ⟨_, rfl⟩
        rw [hc] at CBi
        by_cases h1 : c = 101
        · have HT : Hid _ := hd_step (t := t) (i := 4) (by decide) htk (by rw [hc, h1]; rfl)
          have e1 : ((c : Int) == 101) = true := by rw [h1]; rfl
          have e2 : ((c : Int) != (((⟨#[78, 111, 105, 115, 101, 95]⟩ : ByteArray)[4]).toNat : Int)) = false := by rw [h1]; rfl
          clear h1 hc htk
          go_wp2
          refine Go.Pin.wp_region_cls (fun Y => Below q W Y) (by kernel_rfl) (by kernel_rfl) (HB.out.drew) ?_
          intro Sq fq hNq hRq hSq
          have CF := fun x => CBi (fq x)
          repeat (go_big_quiet_step (exact (CF _).mono (fun e w' h => ⟨h.1, hSq _ (by rw [h.2]; exact hRq _)⟩)))
          refine wpQuiet_nil ?_
          intro _ hw'
          obtain ⟨xq, hw''⟩ := hw'
          subst hw''
          have HYq := hRq xq
          generalize fq xq = Y at HYq ⊢
          clear hRq hSq hNq xq fq Sq CF
          have HY : Hid (Below q W Y) := HYq
          clear HYq
          go_wp2
          go_step3
          refine ⟨⟨HY.out, _, _, _, _, ⟨5, by decide, by have := HT.out.1; omega, rfl, rfl, rfl, rfl, HT.out.2⟩, _, _, _, _, _, _, _, _, _, _, _, _, _, _, _, _, _, _, _, _, _, _, _, _, _, _, _, _, _, _, _, _, _, _, _, _, _, _, _, _, _, _, _, _, _, _, _, _, _, _, _, _, _, _, _, _, _, _, _, _, _, _, _, _, _, _, _, _, rfl⟩, ?_⟩
          have h1 := HT.out.1
          show 10 * (t.size + 2 - ((4 : Int) + 1).toNat) + 5 < 10 * (t.size + 2 - (4 : Int).toNat) + 5
          omega
        · have HT : Hid (nspL (toL t) = none) := hd_no (i := 4) (by decide) (by rw [hc]; exact h1)
          have h2 : ¬ (c : Int) = 101 := by omega
          have e1 : ((c : Int) == 101) = false := by simpa using h2
          have e2 : ((c : Int) != (((⟨#[78, 111, 105, 115, 101, 95]⟩ : ByteArray)[4]).toNat : Int)) = true := by show ((c : Int) != 101) = true; simpa using h2
          clear h1 h2 hc htk
          go_wp2
          refine Go.Pin.wp_region_cls (fun Y => Below q W Y) (by kernel_rfl) (by kernel_rfl) (HB.out.drew) ?_
          intro Sq fq hNq hRq hSq
          have CF := fun x => CBi (fq x)
          repeat (go_big_quiet_step (exact (CF _).mono (fun e w' h => ⟨h.1, hSq _ (by rw [h.2]; exact hRq _)⟩)))
          refine wpQuiet_nil ?_
          intro _ hw'
          obtain ⟨xq, hw''⟩ := hw'
          subst hw''
          have HYq := hRq xq
          generalize fq xq = Y at HYq ⊢
          clear hRq hSq hNq xq fq Sq CF
          have HY : Hid (Below q W Y) := HYq
          clear HYq
          go_wp2
          go_step3
          refine ⟨⟨HY.out, _, _, _, _, ⟨⟨4, rfl⟩, HT.out⟩, _, _, _, _, _, _, _, _, _, _, _, _, _, _, _, _, _, _, _, _, _, _, _, _, _, _, _, _, _, _, _, _, _, _, _, _, _, _, _, _, _, _, _, _, _, _, _, _, _, _, _, _, _, _, _, _, _, _, _, _, _, _, _, _, _, _, _, _, rfl⟩, ?_⟩
          show 10 * (t.size + 2 - (4 : Int).toNat) + 0 < 10 * (t.size + 2 - (4 : Int).toNat) + 5
          omega
      · obtain rfl : av = .int .i64 5 := hav
        have CBi : ∀ W, Calls Tryd.prog 9 #[.string t, .int .i64 5] W fun e w' => e = .returned (.int .u8 (byt t 5)) ∧ w' = W := fun W => CB 5 W
        obtain ⟨c, hc⟩ : ∃ c, byt t 5 = c := ⟨_, rfl⟩
        rw [hc] at CBi
        by_cases h1 : c = 95
        · have HT : Hid _ := hd_step (t := t) (i := 5) (by decide) htk (by rw [hc, h1]; rfl)
          have e1 : ((c : Int) == 95) = true := by rw [h1]; rfl
          have e2 : ((c : Int) != (((⟨#[78, 111, 105, 115, 101, 95]⟩ : ByteArray)[5]).toNat : Int)) = false := by rw [h1]; rfl
          clear h1 hc htk
          go_wp2
          refine Go.Pin.wp_region_cls (fun Y => Below q W Y) (by kernel_rfl) (by kernel_rfl) (HB.out.drew) ?_
          intro Sq fq hNq hRq hSq
          have CF := fun x => CBi (fq x)
          repeat (go_big_quiet_step (exact (CF _).mono (fun e w' h => ⟨h.1, hSq _ (by rw [h.2]; exact hRq _)⟩)))
          refine wpQuiet_nil ?_
          intro _ hw'
          obtain ⟨xq, hw''⟩ := hw'
          subst hw''
          have HYq := hRq xq
          generalize fq xq = Y at HYq ⊢
          clear hRq hSq hNq xq fq Sq CF
          have HY : Hid (Below q W Y) := HYq
          clear HYq
          go_wp2
          go_step3
          refine ⟨⟨HY.out, _, _, _, _, ⟨6, by decide, by have := HT.out.1; omega, rfl, rfl, rfl, rfl, HT.out.2⟩, _, _, _, _, _, _, _, _, _, _, _, _, _, _, _, _, _, _, _, _, _, _, _, _, _, _, _, _, _, _, _, _, _, _, _, _, _, _, _, _, _, _, _, _, _, _, _, _, _, _, _, _, _, _, _, _, _, _, _, _, _, _, _, _, _, _, _, _, rfl⟩, ?_⟩
          have h1 := HT.out.1
          show 10 * (t.size + 2 - ((5 : Int) + 1).toNat) + 5 < 10 * (t.size + 2 - (5 : Int).toNat) + 5
          omega
        · have HT : Hid (nspL (toL t) = none) := hd_no (i := 5) (by decide) (by rw [hc]; exact h1)
          have h2 : ¬ (c : Int) = 95 := by omega
          have e1 : ((c : Int) == 95) = false := by simpa using h2
          have e2 : ((c : Int) != (((⟨#[78, 111, 105, 115, 101, 95]⟩ : ByteArray)[5]).toNat : Int)) = true := by show ((c : Int) != 95) = true; simpa using h2
          clear h1 h2 hc htk
          go_wp2
          refine Go.Pin.wp_region_cls (fun Y => Below q W Y) (by kernel_rfl) (by kernel_rfl) (HB.out.drew) ?_
          intro Sq fq hNq hRq hSq
          have CF := fun x => CBi (fq x)
          repeat (go_big_quiet_step (exact (CF _).mono (fun e w' h => ⟨h.1, hSq _ (by rw [h.2]; exact hRq _)⟩)))
          refine wpQuiet_nil ?_
          intro _ hw'
          obtain ⟨xq, hw''⟩ := hw'
          subst hw''
          have HYq := hRq xq
          generalize fq xq = Y at HYq ⊢
          clear hRq hSq hNq xq fq Sq CF
          have HY : Hid (Below q W Y) := HYq
          clear HYq
          go_wp2
          go_step3
          refine ⟨⟨HY.out, _, _, _, _, ⟨⟨5, rfl⟩, HT.out⟩, _, _, _, _, _, _, _, _, _, _, _, _, _, _, _, _, _, _, _, _, _, _, _, _, _, _, _, _, _, _, _, _, _, _, _, _, _, _, _, _, _, _, _, _, _, _, _, _, _, _, _, _, _, _, _, _, _, _, _, _, _, _, _, _, _, _, _, _, rfl⟩, ?_⟩
          show 10 * (t.size + 2 - (5 : Int).toNat) + 0 < 10 * (t.size + 2 - (5 : Int).toNat) + 5
          omega
      · obtain rfl : av = .int .i64 6 := hav
        have HT : Hid ((toL t).take 6 = toL hdN ∧ 6 ≤ t.size) := ⟨htk, hit⟩
        clear htk hit hi6
        go_wp2
        go_step3
        refine ⟨⟨HB.out, _, _, _, _, ⟨6, Nat.le_refl _, HT.out.2, rfl, rfl, rfl, rfl, HT.out.1, fun j hj => by omega⟩, _, _, _, _, _, _, _, _, _, _, _, _, _, _, _, _, _, _, _, _, _, _, _, _, _, _, _, _, _, _, _, _, _, _, _, _, _, _, _, _, _, _, _, _, _, _, _, _, _, _, _, _, _, _, _, _, _, _, _, _, _, _, _, _, _, _, _, _, rfl⟩, ?_⟩
        show 10 * (t.size + 2 - (6 : Int).toNat) + 4 < 10 * (t.size + 2 - (6 : Int).toNat) + 5
        omega
  · as_aux_lemma =>
      rintro a wr ⟨hb, b, wv, av, fv, ⟨⟨i, rfl⟩, hno⟩, u1, u4, u7, u8, u9, u10, u11, u12, u13, u14, u15, u16, u17, u18, u19, u20, u21, u22, u23, u24, u25, u26, u27, u28, u29, u30, u31, u32, u33, u34, u35, u36, u37, u38, u39, u40, u41, u42, u43, u44, u45, u46, u47, u48, u49, u50, u51, u52, u53, u54, u55, u56, u57, u58, u59, u60, u61, u62, u63, u64, u65, u66, u67, u68, u69, u70, u71, u72, rfl⟩
      have HB : Hid (Below q W wr) := hb
      have HT : Hid (nspL (toL t) = none) := hno
      clear hb hno
      go_wp2
      simp only [jumps]
      go_ret3
      unfold SpP
      rw [HT.out]
      exact ⟨HB.out, rfl⟩
  · as_aux_lemma =>
      rintro a wr ⟨hb, b, wv, av, fv, ⟨i, f, B, L, hfi, hit, rfl, rfl, rfl, ho, hL, hs, hrun, hsp⟩, u1, u4, u7, u8, u9, u10, u11, u12, u13, u14, u15, u16, u17, u18, u19, u20, u21, u22, u23, u24, u25, u26, u27, u28, u29, u30, u31, u32, u33, u34, u35, u36, u37, u38, u39, u40, u41, u42, u43, u44, u45, u46, u47, u48, u49, u50, u51, u52, u53, u54, u55, u56, u57, u58, u59, u60, u61, u62, u63, u64, u65, u66, u67, u68, u69, u70, u71, u72, rfl⟩
      have HB : Hid (Below q W wr) := hb
      obtain ⟨c, hc⟩ : ∃ c, byt t i = c := ⟨_, rfl⟩
      have CBi := CB i
      rw [hc] at CBi
      have CD := isDigit_any c
      have CS := isSmall_any c
      have bi : (i : Int) ≤ 1000 := by have := HN.out; omega
      have bj : (0 : Int) ≤ (i : Int) := by omega
      have HLO : Hid (loB c = true → i < t.size ∧ ∀ j, j < i + 1 - f → lo8 (((toL t).drop f).getD j 0) = true) := fun h => by
        rw [← hc] at h
        exact ⟨in_lo h, run_step (f := lo8) hfi hrun h⟩
      have HEN : Hid (loB c = false → _) := fun h => word_end (B := B) (L := L) hfi hit hs hrun (by rw [hc]; exact h)
      rw [hc] at HEN
      have HI : Hid (f ≤ i ∧ i ≤ t.size ∧ wr.ownsRow q 9 1 wv L.length (L.map Value.string) ∧ L.length ≤ f ∧ headSm ((toL t).drop f) = true ∧ nspL (toL t) = contW B L ((toL t).drop f)) := ⟨hfi, hit, ho, hL, hs, hsp⟩
      clear hrun hc hs hsp
      by_cases h1 : smB c = true
      · rw [h1] at CS
        have HU : Hid (loB c = true) := by show loB c = true; rw [loB_or, h1]; rfl
        clear HEN CD h1 hfi hit ho hb hL
        go_wp2_with (first | (go_at_call 9; refine (CBi _).mono ?_; rintro e wa ⟨rfl, hwa⟩; obtain rfl := hwa.symm) | (go_at_call 11; refine (CD _).mono ?_; rintro e wa ⟨rfl, hwa⟩; obtain rfl := hwa.symm) | (go_at_call 12; refine (CS _).mono ?_; rintro e wa ⟨rfl, hwa⟩; obtain rfl := hwa.symm))
        go_step3
        refine ⟨⟨HB.out, _, _, _, _, ⟨i + 1, f, B, L, by have := HI.out.1; omega, by have := (HLO.out HU.out).1; omega, congrArg (Value.int .i64) (Int.natCast_succ i).symm, rfl, rfl, HI.out.2.2.1, HI.out.2.2.2.1, HI.out.2.2.2.2.1, (HLO.out HU.out).2, HI.out.2.2.2.2.2⟩, _, _, _, _, _, _, _, _, _, _, _, _, _, _, _, _, _, _, _, _, _, _, _, _, _, _, _, _, _, _, _, _, _, _, _, _, _, _, _, _, _, _, _, _, _, _, _, _, _, _, _, _, _, _, _, _, _, _, _, _, _, _, _, _, _, _, _, _, rfl⟩, ?_⟩
        have h1 := (HLO.out HU.out).1
        show 10 * (t.size + 2 - ((i : Int) + 1).toNat) + 3 < 10 * (t.size + 2 - (i : Int).toNat) + 3
        omega
      have h1' : smB c = false := by simpa using h1
      rw [h1'] at CS
      by_cases h2 : dgB c = true
      · rw [h2] at CD
        have HU : Hid (loB c = true) := by show loB c = true; rw [loB_or, h1', h2]; rfl
        clear HEN h1 h1' h2 hfi hit ho hb hL
        go_wp2_with (first | (go_at_call 9; refine (CBi _).mono ?_; rintro e wa ⟨rfl, hwa⟩; obtain rfl := hwa.symm) | (go_at_call 11; refine (CD _).mono ?_; rintro e wa ⟨rfl, hwa⟩; obtain rfl := hwa.symm) | (go_at_call 12; refine (CS _).mono ?_; rintro e wa ⟨rfl, hwa⟩; obtain rfl := hwa.symm))
        go_step3
        refine ⟨⟨HB.out, _, _, _, _, ⟨i + 1, f, B, L, by have := HI.out.1; omega, by have := (HLO.out HU.out).1; omega, congrArg (Value.int .i64) (Int.natCast_succ i).symm, rfl, rfl, HI.out.2.2.1, HI.out.2.2.2.1, HI.out.2.2.2.2.1, (HLO.out HU.out).2, HI.out.2.2.2.2.2⟩, _, _, _, _, _, _, _, _, _, _, _, _, _, _, _, _, _, _, _, _, _, _, _, _, _, _, _, _, _, _, _, _, _, _, _, _, _, _, _, _, _, _, _, _, _, _, _, _, _, _, _, _, _, _, _, _, _, _, _, _, _, _, _, _, _, _, _, _, rfl⟩, ?_⟩
        have h1 := (HLO.out HU.out).1
        show 10 * (t.size + 2 - ((i : Int) + 1).toNat) + 3 < 10 * (t.size + 2 - (i : Int).toNat) + 3
        omega
      have h2' : dgB c = false := by simpa using h2
      rw [h2'] at CD
      obtain ⟨hlt, hpl, hno⟩ := HEN.out (by rw [loB_or, h1', h2']; rfl)
      have a0 : (0 : Int) ≤ (f : Int) := by omega
      have a1 : (f : Int) ≤ (i : Int) := by omega
      have a2 : (i : Int) ≤ (t.size : Int) := by omega
      have a3 : (i : Int) ≤ (n : Int) := by have := HN.out; omega
      obtain ⟨a4, c4, rfl⟩ := own_slice' ho
      obtain ⟨m, hm⟩ : ∃ m, L.length = m := ⟨_, rfl⟩
      have HM : Hid (L.length = m) := hm
      rw [hm] at ho hL ⊢
      obtain ⟨x, hxe⟩ : ∃ x, t.extract f i = x := ⟨_, rfl⟩
      rw [hxe] at hpl hno
      have hqs : q ≤ wr.heap.size := by have := hb.size; omega
      have hst := ho.alloc (.cells #[.string x] 9)
      have hrow : (wr.alloc (.cells #[.string x] 9)).heap[wr.heap.size]? = some (.cells [Value.string x].toArray 9 (0, 0)) := heap_alloc_new _ _
      have HAP : Hid _ := own_app Tryd.underlying23 parts_str rfl (by decide) hst hrow rfl (fun u hu => by simp at hu; subst hu; rfl) (by have := HN.out; omega) (by have := HN.out; omega) (by rw [size_alloc]; omega)
      have HB2 : Hid (Below q W (wr.alloc (.cells #[.string x] 9))) := hb.alloc hqs _
      have HSO : Hid _ := hst
      have HJ : Hid (f < i ∧ i ≤ t.size ∧ m ≤ f ∧ q ≤ wr.heap.size) := ⟨hlt, hit, hL, hqs⟩
      have hnf := HI.out.2.2.2.2.2
      by_cases h43 : c = 43
      · obtain ⟨hi43, hcw⟩ := hpl h43
        have e43 : ((c : Int) == 43) = true := by rw [h43]; rfl
        rw [hcw] at hnf
        have HX : Hid _ := hnf
        have HK : Hid (i < t.size) := hi43
        clear hpl hno hcw hi43 HEN HLO HI h1 h1' h2 h2' h43 hfi hit ho hb hL hlt hqs hst hrow hnf hm
        go_wp2_with (first | (go_at_call 9; refine (CBi _).mono ?_; rintro e wa ⟨rfl, hwa⟩; obtain rfl := hwa.symm) | (go_at_call 11; refine (CD _).mono ?_; rintro e wa ⟨rfl, hwa⟩; obtain rfl := hwa.symm) | (go_at_call 12; refine (CS _).mono ?_; rintro e wa ⟨rfl, hwa⟩; obtain rfl := hwa.symm) | (at_builtin; go_loud (refine wpList_app _ rfl (.tmp 49) (.tmp 54) 23 23 rfl _ _ rfl rfl HAP.out ?_; rintro v' w7 ⟨h1, h2, h3⟩; have H7 : Hid (w7.ownsRow q 9 1 v' (m + 1) (L.map Value.string ++ [.string x])) := h1; have H8 : Hid (Below q W w7) := grown_below HB2.out HSO.out (Nat.le_refl _) (by rw [size_alloc]; have := HJ.out; omega) h2; clear h1 h2 h3)))
        go_step3
        refine ⟨⟨H8.out, _, _, _, _, ⟨i, f, B, L ++ [x], HK.out, rfl, rfl, rfl, by simp only [List.length_append, List.length_singleton, HM.out, List.map_append, List.map_cons, List.map_nil]; exact H7.out, by have := HJ.out; rw [List.length_append, HM.out]; simp; omega, HX.out⟩, _, _, _, _, _, _, _, _, _, _, _, _, _, _, _, _, _, _, _, _, _, _, _, _, _, _, _, _, _, _, _, _, _, _, _, _, _, _, _, _, _, _, _, _, _, _, _, _, _, _, _, _, _, _, _, _, _, _, _, _, _, _, _, _, _, _, _, _, rfl⟩, ?_⟩
        show 10 * (t.size + 2 - (i : Int).toNat) + 2 < 10 * (t.size + 2 - (i : Int).toNat) + 3
        omega
      · have hcw := hno h43
        have h44 : ¬ (c : Int) = 43 := by omega
        have e43 : ((c : Int) == 43) = false := by simpa using h44
        rw [hcw] at hnf
        have HX : Hid _ := hnf
        clear hpl hno hcw HEN HLO HI h1 h1' h2 h2' h43 h44 hfi hit ho hb hL hlt hqs hst hrow hnf hm
        go_wp2_with (first | (go_at_call 9; refine (CBi _).mono ?_; rintro e wa ⟨rfl, hwa⟩; obtain rfl := hwa.symm) | (go_at_call 11; refine (CD _).mono ?_; rintro e wa ⟨rfl, hwa⟩; obtain rfl := hwa.symm) | (go_at_call 12; refine (CS _).mono ?_; rintro e wa ⟨rfl, hwa⟩; obtain rfl := hwa.symm) | (at_builtin; go_loud (refine wpList_app _ rfl (.tmp 49) (.tmp 54) 23 23 rfl _ _ rfl rfl HAP.out ?_; rintro v' w7 ⟨h1, h2, h3⟩; have H7 : Hid (w7.ownsRow q 9 1 v' (m + 1) (L.map Value.string ++ [.string x])) := h1; have H8 : Hid (Below q W w7) := grown_below HB2.out HSO.out (Nat.le_refl _) (by rw [size_alloc]; have := HJ.out; omega) h2; clear h1 h2 h3)))
        go_step3
        refine ⟨⟨H8.out, _, _, _, _, ⟨i, f, B, L ++ [x], HJ.out.2.1, rfl, rfl, rfl, by simp only [List.length_append, List.length_singleton, HM.out, List.map_append, List.map_cons, List.map_nil]; exact H7.out, HX.out⟩, _, _, _, _, _, _, _, _, _, _, _, _, _, _, _, _, _, _, _, _, _, _, _, _, _, _, _, _, _, _, _, _, _, _, _, _, _, _, _, _, _, _, _, _, _, _, _, _, _, _, _, _, _, _, _, _, _, _, _, _, _, _, _, _, _, _, _, _, rfl⟩, ?_⟩
        show 10 * (t.size + 2 - (i : Int).toNat) + 1 < 10 * (t.size + 2 - (i : Int).toNat) + 3
        omega
  · as_aux_lemma =>
      rintro a wr ⟨hb, b, wv, av, fv, ⟨i, f, B, L, hit, rfl, rfl, rfl, ho, hsp⟩, u1, u4, u7, u8, u9, u10, u11, u12, u13, u14, u15, u16, u17, u18, u19, u20, u21, u22, u23, u24, u25, u26, u27, u28, u29, u30, u31, u32, u33, u34, u35, u36, u37, u38, u39, u40, u41, u42, u43, u44, u45, u46, u47, u48, u49, u50, u51, u52, u53, u54, u55, u56, u57, u58, u59, u60, u61, u62, u63, u64, u65, u66, u67, u68, u69, u70, u71, u72, rfl⟩
      have HB : Hid (Below q W wr) := hb
      have HO : Hid _ := ho
      obtain ⟨a4, c4, rfl⟩ := own_slice' ho
      have a1 : (0 : Int) ≤ (i : Int) := by omega
      have a2 : (i : Int) ≤ (t.size : Int) := by omega
      have a3 : (i : Int) ≤ (n : Int) := by have := HN.out; omega
      have hx : toL (t.extract i t.size) = (toL t).drop i := by rw [toL_ext, List.take_of_length_le (by rw [toL_len]; exact Nat.le_refl _)]
      rw [hn] at hx
      obtain ⟨x, hxe⟩ : ∃ x, t.extract i n = x := ⟨_, rfl⟩
      rw [hxe] at hx
      have hst := strTl' x
      rw [← hx] at hsp
      obtain ⟨m, hm⟩ : ∃ m, L.length = m := ⟨_, rfl⟩
      have HM : Hid (L.length = m) := hm
      rw [hm]
      by_cases h1 : x = tlN
      · rw [decide_eq_true h1] at hst
        rw [h1, if_pos rfl] at hsp
        have HT : Hid (nspL (toL t) = some (toL B, L.map toL)) := hsp
        clear hb ho hsp hx h1 hm
        go_wp2
        simp only [jumps]
        go_ret3
        unfold SpP
        rw [HT.out]
        exact ⟨HB.out, B, L, _, rfl, rfl, rfl, by have := HO.out; rw [HM.out] at this ⊢; exact this⟩
      · rw [decide_eq_false h1] at hst
        rw [if_neg (fun e => h1 (toL_inj e))] at hsp
        have HT : Hid (nspL (toL t) = none) := hsp
        clear hb ho hsp hx h1 hm
        go_wp2
        go_step3
        go_wp2
        simp only [jumps]
        go_ret3
        unfold SpP
        rw [HT.out]
        exact ⟨HB.out, rfl⟩
  · as_aux_lemma =>
      rintro a wr ⟨hb, b, wv, av, fv, ⟨i, f, B, L, hit, rfl, rfl, rfl, ho, hL, hsp⟩, u1, u4, u7, u8, u9, u10, u11, u12, u13, u14, u15, u16, u17, u18, u19, u20, u21, u22, u23, u24, u25, u26, u27, u28, u29, u30, u31, u32, u33, u34, u35, u36, u37, u38, u39, u40, u41, u42, u43, u44, u45, u46, u47, u48, u49, u50, u51, u52, u53, u54, u55, u56, u57, u58, u59, u60, u61, u62, u63, u64, u65, u66, u67, u68, u69, u70, u71, u72, rfl⟩
      have HB : Hid (Below q W wr) := hb
      obtain ⟨c, hc⟩ : ∃ c, byt t (i + 1) = c := ⟨_, rfl⟩
      have CBi : ∀ W, Calls Tryd.prog 9 #[.string t, .int .i64 ((i : Int) + 1)] W fun e w' => e = .returned (.int .u8 c) ∧ w' = W := fun W => by have := CB (i + 1) W; rw [hc] at this; exact this
      have CS := isSmall_any c
      have hh := headSm_byt t (i + 1)
      rw [hc] at hh
      rw [hh] at hsp
      have bi : (i : Int) ≤ 1000 := by have := HN.out; omega
      have bj : (0 : Int) ≤ (i : Int) := by omega
      have HI : Hid (i < t.size ∧ L.length ≤ i + 1 ∧ wr.ownsRow q 9 1 wv L.length (L.map Value.string) ∧ headSm ((toL t).drop (i + 1)) = smB c) := ⟨hit, hL, ho, hh⟩
      clear hb ho hL hh hc hit
      by_cases h1 : smB c = true
      · rw [h1] at CS
        rw [if_pos h1] at hsp
        have HX : Hid _ := hsp
        have HS : Hid (headSm ((toL t).drop (i + 1)) = true) := by show _ = true; rw [HI.out.2.2.2]; exact h1
        clear h1 hsp
        go_wp2_with (first | (go_at_call 9; refine (CBi _).mono ?_; rintro e wa ⟨rfl, hwa⟩; obtain rfl := hwa.symm) | (go_at_call 12; refine (CS _).mono ?_; rintro e wa ⟨rfl, hwa⟩; obtain rfl := hwa.symm))
        go_step3
        refine ⟨⟨HB.out, _, _, _, _, ⟨i + 1, i + 1, B, L, Nat.le_refl _, by have := HI.out.1; omega, congrArg (Value.int .i64) (Int.natCast_succ i).symm, congrArg (Value.int .i64) (Int.natCast_succ i).symm, rfl, HI.out.2.2.1, HI.out.2.1, HS.out, fun j hj => by omega, HX.out⟩, _, _, _, _, _, _, _, _, _, _, _, _, _, _, _, _, _, _, _, _, _, _, _, _, _, _, _, _, _, _, _, _, _, _, _, _, _, _, _, _, _, _, _, _, _, _, _, _, _, _, _, _, _, _, _, _, _, _, _, _, _, _, _, _, _, _, _, _, rfl⟩, ?_⟩
        have h1 := HI.out.1
        show 10 * (t.size + 2 - ((i : Int) + 1).toNat) + 3 < 10 * (t.size + 2 - (i : Int).toNat) + 2
        omega
      · have h1' : smB c = false := by simpa using h1
        rw [h1'] at CS
        rw [if_neg h1] at hsp
        have HX : Hid (nspL (toL t) = none) := hsp
        clear h1 h1' hsp
        go_wp2_with (first | (go_at_call 9; refine (CBi _).mono ?_; rintro e wa ⟨rfl, hwa⟩; obtain rfl := hwa.symm) | (go_at_call 12; refine (CS _).mono ?_; rintro e wa ⟨rfl, hwa⟩; obtain rfl := hwa.symm))
        go_step3
        refine ⟨⟨HB.out, _, _, _, _, ⟨⟨i + 1, congrArg (Value.int .i64) (Int.natCast_succ i).symm⟩, HX.out⟩, _, _, _, _, _, _, _, _, _, _, _, _, _, _, _, _, _, _, _, _, _, _, _, _, _, _, _, _, _, _, _, _, _, _, _, _, _, _, _, _, _, _, _, _, _, _, _, _, _, _, _, _, _, _, _, _, _, _, _, _, _, _, _, _, _, _, _, _, rfl⟩, ?_⟩
        have h1 := HI.out.1
        show 10 * (t.size + 2 - ((i : Int) + 1).toNat) + 0 < 10 * (t.size + 2 - (i : Int).toNat) + 2
        omega
end Go.Proofs.YtchnkpgkckadmabDoor
