import Derived.Test.YtigapdfefapdgaaTraceOp
import Derived.Test.YtigapdfefapdgaaChecked
namespace Go.Proofs.Ytigapdfefapdgaa
set_option linter.unusedSimpArgs false
open Go.ChangeShapes Go.WideShapes Go.ChangeAt Go.RowKit Go.Pin
theorem dn {w : World} (m : Nat) : Below w.heap.size w (w.drewN m) := below_drewN' (Below.refl _ _) m
set_option maxRecDepth 100000 in
set_option maxHeartbeats 2000000 in
theorem sames_walk (v1 : Value) (l1 : List (Int × Int × Bool)) (v2 : Value) (l2 : List (Int × Int × Bool)) (w : World) (h1 : Sl w v1 3 (stC l1) l1.length) (h2 : Sl w v2 3 (stC l2) l2.length) :
    Calls Try.prog 5 #[v1, v2] w fun e w' => e = .returned (.bool true) ∧ Below w.heap.size w w' := by
  have HF1 : Hid (∀ _ : Unit, _) := fun _ => filled_any v1 l1 w h1
  have H1 : Hid (Sl w v1 3 (stC l1) l1.length) := h1
  have H2 : Hid (Sl w v2 3 (stC l2) l2.length) := h2
  clear h1 h2
  obtain ⟨A, hA⟩ : ∃ A, lg (l1.take 2000) = A := ⟨_, rfl⟩
  obtain ⟨B, hB⟩ : ∃ B, lg (l2.take 2000) = B := ⟨_, rfl⟩
  have HA : Hid _ := hA
  have HB : Hid _ := hB
  have lA : A.length ≤ 2000 := by rw [← hA]; have := lg_len (l1.take 2000); rw [List.length_take] at this; omega
  have lB : B.length ≤ 2000 := by rw [← hB]; have := lg_len (l2.take 2000); rw [List.length_take] at this; omega
  clear hA hB
  obtain ⟨q, hq⟩ : ∃ q, (A == B) = q := ⟨_, rfl⟩
  have hq' : (B == A) = q := by rw [← hq, Bool.eq_iff_iff]; simp only [beq_iff_eq]; exact eq_comm
  have HQ : Hid (_ ∧ _) := ⟨hq, hq'⟩
  clear hq hq'
  obtain ⟨zA, hzA⟩ : ∃ z, (A == []) = z := ⟨_, rfl⟩
  obtain ⟨zB, hzB⟩ : ∃ z, ([] == B) = z := ⟨_, rfl⟩
  have hyA : ((A.length : Int) == 0) = zA := by rw [← hzA, Bool.eq_iff_iff]; simp only [beq_iff_eq]; rw [← List.length_eq_zero_iff]; omega
  have hyB : ((B.length : Int) == 0) = zB := by rw [← hzB, Bool.eq_iff_iff]; simp only [beq_iff_eq]; rw [eq_comm (a := []), ← List.length_eq_zero_iff]; omega
  have HZ : Hid (_ ∧ _) := ⟨hzA, hzB⟩
  clear hzA hzB
  go_enter Try.func5, Try.ntmps5
  go_wp2_with (first
    | (go_at_call 17; refine (HF1.out ()).mono ?_; clear HF1; rintro e w1 ⟨rfl, ⟨vs1, R1⟩, B1⟩; rw [HA.out] at R1; have HF2 : Hid (∀ _ : Unit, _) := fun _ => filled_any v2 l2 w1 (sl_below B1 H2.out); have HR1 : Hid (Rec w.heap.size w1 w.heap.size vs1 A) := R1; have HB1 : Hid (Below w.heap.size w w1) := B1; clear R1 B1)
    | (go_at_call 17; refine (HF2.out ()).mono ?_; clear HF2; rintro e w2 ⟨rfl, ⟨vs2, R2⟩, B2⟩; rw [HB.out] at R2; have B20 := HB1.out.trans (B2.mono HB1.out.size); have HL1 : Hid (∀ _ : Unit, _) := fun _ => logs_any v1 l1 w2 (sl_below B20 H1.out); have HR2 : Hid (Rec w1.heap.size w2 w1.heap.size vs2 B) := R2; have HB2 : Hid (Below w1.heap.size w1 w2) := B2; have HB20 : Hid (Below w.heap.size w w2) := B20; clear R2 B2 B20)
    | (go_at_call 18; refine (HL1.out ()).mono ?_; clear HL1; rintro e w3 ⟨a, rfl, oA, B3⟩; rw [HA.out] at oA; have B30 := HB20.out.trans (B3.mono HB20.out.size); have HL2 : Hid (∀ _ : Unit, _) := fun _ => logs_any v2 l2 w3 (sl_below B30 H2.out); obtain ⟨aa, ca, rfl⟩ := owns_len oA; have HO1 : Hid (Sl w3 (.slice aa A.length ca) 2 (evC A) A.length) := sl_of_owns oA; have HB3 : Hid (Below w2.heap.size w2 w3) := B3; have HB30 : Hid (Below w.heap.size w w3) := B30; clear oA B3 B30)
    | (go_at_call 18; refine (HL2.out ()).mono ?_; clear HL2; rintro e w4 ⟨b, rfl, oB, B4⟩; rw [HB.out] at oB; have HB40 : Hid (Below w.heap.size w w4) := HB30.out.trans (B4.mono HB30.out.size); obtain ⟨ab, cb, rfl⟩ := owns_len oB; have HE : Hid (∀ _ : Unit, _) := fun _ => events_any _ _ A B w4 (sl_below B4 HO1.out) (sl_of_owns oB) (by omega); have P2 : RecO w4 (.pointer (some ⟨w1.heap.size, 0, none⟩)) vs2 B := ((HR2.out.below HB3.out).below B4).opt; have P1 : RecO w4 (.pointer (some ⟨w.heap.size, 0, none⟩)) vs1 A := (((HR1.out.below HB2.out).below HB3.out).below B4).opt; have HP1 : Hid (RecO w4 (.pointer (some ⟨w.heap.size, 0, none⟩)) vs1 A) := P1; have HS1 : Hid (∀ m : Nat, _) := fun m => same_any _ _ vs1 vs2 A B (w4.drewN m) (P1.below (dn m)) (P2.below (dn m)) (by omega); have HS2 : Hid (∀ m : Nat, _) := fun m => same_any _ _ vs2 vs1 B A (w4.drewN m) (P2.below (dn m)) (P1.below (dn m)) (by omega); have HS3 : Hid (∀ m : Nat, _) := fun m => same_any _ _ vs1 vs1 A A (w4.drewN m) (P1.below (dn m)) (P1.below (dn m)) (by omega); have HS4 : Hid (∀ m : Nat, _) := fun m => same_any _ _ _ _ [] [] (w4.drewN m) (recO_nil _) (recO_nil _) (by decide); have HS5 : Hid (∀ m : Nat, _) := fun m => same_any _ _ vs1 _ A [] (w4.drewN m) (P1.below (dn m)) (recO_nil _) (by omega); have HS6 : Hid (∀ m : Nat, _) := fun m => same_any _ _ _ vs2 [] B (w4.drewN m) (recO_nil _) (P2.below (dn m)) (by decide); clear oB B4 P1 P2 HR1 HR2 HB1 HB2 HB3 HB20 HB30 HO1 H1 H2)
    | (go_at_call 19; refine (HE.out ()).mono ?_; clear HE; rintro e w5 ⟨rfl, m0, rfl⟩; rw [HQ.out.1])
    | (go_at_call 20; refine (HS1.out _).mono ?_; clear HS1; rintro e w6 ⟨rfl, m1, rfl⟩; rw [HQ.out.1])
    | (go_at_call 20; refine (HS2.out _).mono ?_; clear HS2; rintro e w7 ⟨rfl, m2, rfl⟩; rw [HQ.out.2])
    | (go_at_call 20; refine (HS3.out _).mono ?_; clear HS3; rintro e w8 ⟨rfl, m3, rfl⟩; rw [beq_self_eq_true])
    | (go_at_call 20; refine (HS4.out _).mono ?_; clear HS4; rintro e w9 ⟨rfl, m4, rfl⟩)
    | (go_at_call 20; refine (HS5.out _).mono ?_; clear HS5; rintro e w10 ⟨rfl, m5, rfl⟩; rw [HZ.out.1])
    | (go_at_call 20; refine (HS6.out _).mono ?_; clear HS6; rintro e w11 ⟨rfl, m6, rfl⟩; rw [HZ.out.2])
    | (go_at_call 9; refine (new_any _).mono ?_; rintro e w12 ⟨rfl, hw12⟩; have B12 : Below w4.heap.size w4 w12 := by rw [hw12]; exact (dn _).alloc (Nat.le_refl _) _
       have HS7 : Hid (∀ _ : Unit, _) := fun _ => same_any _ _ vs1 _ A [] w12 (HP1.out.below B12) (by rw [hw12]; exact (rec_new _).opt) (by omega)
       have HB12 : Hid (Below w4.heap.size w4 w12) := B12
       clear B12 hw12)
    | (go_at_call 20; refine (HS7.out ()).mono ?_; clear HS7; rintro e w13 ⟨rfl, m7, rfl⟩; rw [HZ.out.1])
    | (go_at_call 14; refine (total_any _ vs1 A _ (HP1.out.below (below_drewN' HB12.out _))).mono ?_; rintro e w14 ⟨rfl, hw14⟩; subst hw14)
    | (go_at_call 13; refine (known_any _).mono ?_; rintro e w15 ⟨rfl, B15⟩))
  go_ret
  have B16 := (below_drewN' HB12.out m7).trans (B15.mono HB12.out.size)
  exact ⟨rfl, HB40.out.trans (B16.mono HB40.out.size)⟩

set_option maxRecDepth 100000 in
theorem sames_lifted (os : Os) (started : os.Started) (H : Type) (enc : TypeId × Value → H) :
    ReturnsInHanded {} Try.checked os 5 .any (Rows.traceSamesSpec.pre6 enc Try.prog Try.f5 Rows.traceSamesRow.domain false) (Rows.traceSamesSpec.post enc Try.prog Try.f5 false true false false) := by
  refine returnsInHanded_of_change_sized (C := Try.checked) own started (by kernel_rfl) Try.func5
    (ChangeSpec.witness6 (enc := enc) (C := Try.checked) false ⟨#[], #[.slice none 0 0, .slice none 0 0], []⟩ 8 (by kernel_rfl) (by kernel_rfl) (by kernel_rfl) (by kernel_rfl)) ?_
  intro W base args ds gs before hval0 hW hcnd hsz0 _
  clear hsz0
  have hval : ∀ (j : Nat) t v, Try.f5.params[j]? = some t → args[j]? = some v → Value.okWide Try.prog W .any base t v := hval0
  have hW' := hW
  obtain ⟨p, q, hA0, hV, rfl, hfz, hnd⟩ := hW
  have hA : DataW.TrodAll enc Try.prog W 0 (fun _ => true) true Try.f5.params.toList args.toList ds p := hA0
  rw [Try.params5] at hA hval
  have hAll := fun W' (hb : Below W.heap.size W W') => trodAll_below laidOut hb _ _ _ _ (by kernel_rfl) hA
  obtain ⟨v0, vs0, d0, ds0, p0, q0, hargs, rfl, rfl, h0, r0⟩ := trodAll_cons hA
  obtain ⟨v1, vs1, d1, ds1, p1, q1, rfl, rfl, rfl, h1, r1⟩ := trodAll_cons r0
  obtain ⟨rfl, rfl, rfl⟩ := trodAll_nil r1
  obtain rfl : args = #[v0, v1] := by cases args; simp_all
  obtain ⟨rfl, rfl⟩ := trodVars_none hV
  obtain ⟨a0, len0, cap0, rfl⟩ := okWide_slice Try.underlying22 (hval 0 22 v0 rfl rfl)
  obtain ⟨z0, rfl, w0⟩ := open_script h0
  obtain ⟨a1, len1, cap1, rfl⟩ := okWide_slice Try.underlying22 (hval 1 22 v1 rfl rfl)
  obtain ⟨z1, rfl, w1⟩ := open_script h1
  clear hA0 hval0
  refine (sames_walk _ z0 _ z1 W w0 w1).mono fun e W' ⟨he, bel⟩ => ?_
  subst he
  exact ⟨_, rfl, _, _, _, [], _, [], hW', trodAll_mk1 (shut_bool Try.underlying4 _), hAll W' bel, rfl, bel.frame _, fun h => by cases h⟩

theorem sames_proved : Rows.TraceSamesSaid :=
  OpenClaim.holds_of_wide 5 Try.f5 rfl rfl rfl rfl rfl rfl rfl ⟨rfl, rfl, rfl, rfl, rfl⟩ rfl rfl rfl rfl rfl (by kernel_rfl) Try.func5 (by kernel_rfl)
    (of_decide_eq_true (by kernel_rfl)) (by unfold Func.isWrapper; first | (rw [if_pos (by decide +kernel)]; kernel_rfl) | (rw [if_neg (by decide +kernel)]; exact ⟨rfl, rfl⟩))
    (fun os started H enc _ => sames_lifted os started H enc)
end Go.Proofs.Ytigapdfefapdgaa
