import Derived.Scope
import Derived.WalkMore
import Derived.BigQuiet
import Derived.Deep.QuietTactic
import Derived.Test.YtchnkpgkckadmabDoorMoae
import Derived.Test.YtchnkpgkckadmabDoorMoaf
/- a scope with several labels: what holds at a jump to each of them, and a measure that every pass lowers -/
namespace Go.Pin
open Go
/-- As Q; by a goto to a label l: J l. -/
def jumps (J : Nat → Act → World → Prop) (Q : Exit → Act → World → Prop) : Exit → Act → World → Prop
  | .goto l, a, w => J l a w
  | e, a, w => Q e a w
section
variable {P : Program} {a : Act} {w : World} {Q : Exit → Act → World → Prop}
theorem wp_scope_many {c : Code} (R : Nat → Code) (J : Nat → Act → World → Prop) (μ : Nat → Act → World → Nat) (hf : ∀ l a w, J l a w → findLabel c l = some (R l))
    (first : c.wp P (jumps J Q) a w)
    (pass : ∀ l a w, J l a w → (R l).wp P (jumps (fun l' a' w' => J l' a' w' ∧ μ l' a' w' < μ l a w) Q) a w) : (Code.scope c).wp P Q a w := by
  intro b k cs
  have hg : ∀ l rest, findLabel c l = some rest → gotoIn l (.inScope c :: k) = some (.code rest :: .inScope c :: k) := fun l rest hf => by simp [gotoIn, hf]
  have key : ∀ n l a w, μ l a w = n → J l a w → ∃ e a' w', Q e a' w' ∧ Arrives P (lone (b.at a (.code (R l) :: .inScope c :: k)) cs w) b k cs e a' w' := by
    intro n
    induction n using Nat.strongRecOn with
    | _ n ih =>
      intro l a w hn hJ
      obtain ⟨e, a₁, w₁, hq, harr⟩ := pass l a w hJ b (.inScope c :: k) cs
      cases e with
      | normal => exact ⟨.normal, a₁, w₁, hq, Steps.trans harr (.one step_inScope)⟩
      | exit id => exact ⟨.exit id, a₁, w₁, hq, fun k' hk => harr k' (by simp [exitTo, hk])⟩
      | goto l' =>
        obtain ⟨hJ', hlt⟩ := hq
        obtain ⟨e₂, a₂, w₂, hq₂, harr₂⟩ := ih _ (by omega) l' a₁ w₁ rfl hJ'
        exact ⟨e₂, a₂, w₂, hq₂, .of_steps (harr _ (hg _ _ (hf l' a₁ w₁ hJ'))) harr₂⟩
      | ret => exact ⟨_, a₁, w₁, hq, harr⟩
      | panic ch => exact ⟨_, a₁, w₁, hq, harr⟩
      | outgrown => exact ⟨_, a₁, w₁, hq, harr⟩
  obtain ⟨e, a₁, w₁, hq, harr⟩ := first b (.inScope c :: k) cs
  cases e with
  | normal => exact ⟨.normal, a₁, w₁, hq, .head step_scope (Steps.trans harr (.one step_inScope))⟩
  | exit id => exact ⟨.exit id, a₁, w₁, hq, fun k' hk => .head step_scope (harr k' (by simp [exitTo, hk]))⟩
  | goto l' =>
    obtain ⟨e₂, a₂, w₂, hq₂, harr₂⟩ := key _ l' a₁ w₁ rfl hq
    exact ⟨e₂, a₂, w₂, hq₂, .of_steps (.head step_scope (harr _ (hg _ _ (hf l' a₁ w₁ hq)))) harr₂⟩
  | ret => exact ⟨_, a₁, w₁, hq, .of_steps (.one step_scope) harr⟩
  | panic ch => exact ⟨_, a₁, w₁, hq, .of_steps (.one step_scope) harr⟩
  | outgrown => exact ⟨_, a₁, w₁, hq, .of_steps (.one step_scope) harr⟩
theorem wp_scope_six {c r0 r1 r2 r3 r4 r5 : Code} (J : Nat → Act → World → Prop) (μ : Nat → Act → World → Nat) (h0 : findLabel c 0 = some r0) (h1 : findLabel c 1 = some r1) (h2 : findLabel c 2 = some r2) (h3 : findLabel c 3 = some r3) (h4 : findLabel c 4 = some r4) (h5 : findLabel c 5 = some r5)
    (hJ : ∀ l a w, J l a w → l < 6)
    (first : c.wp P (jumps J Q) a w)
    (p0 : ∀ a w, J 0 a w → r0.wp P (jumps (fun l' a' w' => J l' a' w' ∧ μ l' a' w' < μ 0 a w) Q) a w)
    (p1 : ∀ a w, J 1 a w → r1.wp P (jumps (fun l' a' w' => J l' a' w' ∧ μ l' a' w' < μ 1 a w) Q) a w)
    (p2 : ∀ a w, J 2 a w → r2.wp P (jumps (fun l' a' w' => J l' a' w' ∧ μ l' a' w' < μ 2 a w) Q) a w)
    (p3 : ∀ a w, J 3 a w → r3.wp P (jumps (fun l' a' w' => J l' a' w' ∧ μ l' a' w' < μ 3 a w) Q) a w)
    (p4 : ∀ a w, J 4 a w → r4.wp P (jumps (fun l' a' w' => J l' a' w' ∧ μ l' a' w' < μ 4 a w) Q) a w)
    (p5 : ∀ a w, J 5 a w → r5.wp P (jumps (fun l' a' w' => J l' a' w' ∧ μ l' a' w' < μ 5 a w) Q) a w) : (Code.scope c).wp P Q a w := by
  have key : ∀ l, l < 6 → l = 0 ∨ l = 1 ∨ l = 2 ∨ l = 3 ∨ l = 4 ∨ l = 5 := fun l hl => by omega
  refine wp_scope_many (fun | 0 => r0 | 1 => r1 | 2 => r2 | 3 => r3 | 4 => r4 | _ => r5) J μ (fun l a w h => ?_) first (fun l a w h => ?_)
  · rcases key l (hJ l a w h) with rfl | rfl | rfl | rfl | rfl | rfl
    · exact h0
    · exact h1
    · exact h2
    · exact h3
    · exact h4
    · exact h5
  · rcases key l (hJ l a w h) with rfl | rfl | rfl | rfl | rfl | rfl
    · exact p0 a w h
    · exact p1 a w h
    · exact p2 a w h
    · exact p3 a w h
    · exact p4 a w h
    · exact p5 a w h
end
end Go.Pin
namespace Go.Proofs.YtchnkpgkckadmabDoor
set_option linter.unusedSimpArgs false
set_option linter.unusedVariables false
set_option maxRecDepth 100000
open Go.ChangeShapes Go.WideShapes Go.ChangeAt Go.RowKit Go.Pin Go.Pat
def cpB (c : Nat) : Bool := decide (65 ≤ c) && decide (c ≤ 90)
theorem upB_or (c : Nat) : upB c = (cpB c || dgB c) := rfl
theorem loB_or (c : Nat) : loB c = (smB c || dgB c) := rfl
theorem byt_out {t : ByteArray} {i : Nat} (h : t.size ≤ i) : byt t i = 0 := by
  have := toL_len t
  unfold byt
  show ((toL t).getD i 0).toNat = 0
  rw [List.getD, List.getElem?_eq_none (by omega)]
  rfl
theorem byt_at (s : ByteArray) (i : Nat) (h : i < s.size) : byt s i = s[i].toNat := by
  unfold byt
  have : i < s.data.toList.length := by rw [Array.length_toList]; exact h
  rw [List.getD_eq_getElem?_getD, List.getElem?_eq_getElem this]
  rfl
theorem byt_lt (t : ByteArray) (i : Nat) : byt t i < 256 := UInt8.toNat_lt _
theorem byteAt_any (t : ByteArray) (i : Nat) (W : World) :
    Calls Tryd.prog 9 #[.string t, .int .i64 i] W fun e w' => e = .returned (.int .u8 (byt t i)) ∧ w' = W := by
  obtain ⟨n, hn⟩ : ∃ n, t.size = n := ⟨_, rfl⟩
  by_cases h : i < n
  · have hil : i < t.size := by omega
    have hb := byt_at t i hil
    have b1 : (i : Int) < (n : Int) := by omega
    have HB : Hid _ := hb
    clear hb h
    go_enter Tryd.func9, Tryd.ntmps9
    go_wp2
    go_ret
    exact ⟨by rw [HB.out]; rfl, rfl⟩
  · have HB : Hid (byt t i = 0) := byt_out (by omega)
    have b1 : ¬ (i : Int) < (n : Int) := by omega
    clear h
    go_enter Tryd.func9, Tryd.ntmps9
    go_wp2
    go_ret
    exact ⟨by rw [HB.out]; rfl, rfl⟩
theorem isCapital_any (c : Nat) (W : World) :
    Calls Tryd.prog 10 #[.int .u8 c] W fun e w' => e = .returned (.bool (cpB c)) ∧ w' = W := by
  by_cases h1 : 65 ≤ c
  · have ih1 : (65 : Int) ≤ (c : Int) := by omega
    by_cases h2 : c ≤ 90
    · have ih2 : (c : Int) ≤ 90 := by omega
      have HV : Hid (cpB c = true) := by show cpB c = true; unfold cpB; simp; omega
      clear h1 h2
      go_enter Tryd.func10, Tryd.ntmps10
      go_wp2
      go_ret
      exact ⟨by rw [HV.out]; rfl, rfl⟩
    · have ih2 : ¬ (c : Int) ≤ 90 := by omega
      have HV : Hid (cpB c = false) := by show cpB c = false; unfold cpB; simp; omega
      clear h1 h2
      go_enter Tryd.func10, Tryd.ntmps10
      go_wp2
      go_ret
      exact ⟨by rw [HV.out]; rfl, rfl⟩
  · have ih1 : ¬ (65 : Int) ≤ (c : Int) := by omega
    have HV : Hid (cpB c = false) := by show cpB c = false; unfold cpB; simp; omega
    clear h1
    go_enter Tryd.func10, Tryd.ntmps10
    go_wp2
    go_ret
    exact ⟨by rw [HV.out]; rfl, rfl⟩
theorem isSmall_any (c : Nat) (W : World) :
    Calls Tryd.prog 12 #[.int .u8 c] W fun e w' => e = .returned (.bool (smB c)) ∧ w' = W := by
  by_cases h1 : 97 ≤ c
  · have ih1 : (97 : Int) ≤ (c : Int) := by omega
    by_cases h2 : c ≤ 122
    · have ih2 : (c : Int) ≤ 122 := by omega
      have HV : Hid (smB c = true) := by show smB c = true; unfold smB; simp; omega
      clear h1 h2
      go_enter Tryd.func12, Tryd.ntmps12
      go_wp2
      go_ret
      exact ⟨by rw [HV.out]; rfl, rfl⟩
    · have ih2 : ¬ (c : Int) ≤ 122 := by omega
      have HV : Hid (smB c = false) := by show smB c = false; unfold smB; simp; omega
      clear h1 h2
      go_enter Tryd.func12, Tryd.ntmps12
      go_wp2
      go_ret
      exact ⟨by rw [HV.out]; rfl, rfl⟩
  · have ih1 : ¬ (97 : Int) ≤ (c : Int) := by omega
    have HV : Hid (smB c = false) := by show smB c = false; unfold smB; simp; omega
    clear h1
    go_enter Tryd.func12, Tryd.ntmps12
    go_wp2
    go_ret
    exact ⟨by rw [HV.out]; rfl, rfl⟩
theorem isDigit_any (c : Nat) (W : World) :
    Calls Tryd.prog 11 #[.int .u8 c] W fun e w' => e = .returned (.bool (dgB c)) ∧ w' = W := by
  by_cases h1 : 48 ≤ c
  · have ih1 : (48 : Int) ≤ (c : Int) := by omega
    by_cases h2 : c ≤ 57
    · have ih2 : (c : Int) ≤ 57 := by omega
      have HV : Hid (dgB c = true) := by show dgB c = true; unfold dgB; simp; omega
      clear h1 h2
      go_enter Tryd.func11, Tryd.ntmps11
      go_wp2
      go_ret
      exact ⟨by rw [HV.out]; rfl, rfl⟩
    · have ih2 : ¬ (c : Int) ≤ 57 := by omega
      have HV : Hid (dgB c = false) := by show dgB c = false; unfold dgB; simp; omega
      clear h1 h2
      go_enter Tryd.func11, Tryd.ntmps11
      go_wp2
      go_ret
      exact ⟨by rw [HV.out]; rfl, rfl⟩
  · have ih1 : ¬ (48 : Int) ≤ (c : Int) := by omega
    have HV : Hid (dgB c = false) := by show dgB c = false; unfold dgB; simp; omega
    clear h1
    go_enter Tryd.func11, Tryd.ntmps11
    go_wp2
    go_ret
    exact ⟨by rw [HV.out]; rfl, rfl⟩
end Go.Proofs.YtchnkpgkckadmabDoor
/- the program's machine, step by step -/
namespace Go.Pat
set_option linter.unusedVariables false
theorem bytD (t : ByteArray) (i : Nat) : byt t i = ((toL t).getD i 0).toNat := rfl
theorem getD_at (l : List UInt8) (i : Nat) (h : i < l.length) : l.getD i 0 = l[i] := by simp [List.getD, h]
theorem getD_drop (l : List UInt8) (f j : Nat) : (l.drop f).getD j 0 = l.getD (f + j) 0 := by simp [List.getD]
theorem headSm_byt (t : ByteArray) (i : Nat) : headSm ((toL t).drop i) = smB (byt t i) := by
  rw [bytD]
  by_cases h : i < (toL t).length
  · rw [List.drop_eq_getElem_cons h]
    have : (toL t).getD i 0 = (toL t)[i] := getD_at _ _ h
    rw [this]
    rfl
  · rw [List.drop_eq_nil_of_le (by omega)]
    have : (toL t).getD i 0 = 0 := by simp [List.getD, List.getElem?_eq_none (by omega : (toL t).length ≤ i)]
    rw [this]
    rfl
theorem in_of {t : ByteArray} {i : Nat} (h : byt t i ≠ 0) : i < t.size := by
  refine Classical.byContradiction fun e => h ?_
  rw [bytD, List.getD, List.getElem?_eq_none (by rw [toL_len]; omega)]
  rfl
theorem in_up {t : ByteArray} {i : Nat} (h : upB (byt t i) = true) : i < t.size := in_of (fun e => by rw [e] at h; cases h)
theorem in_lo {t : ByteArray} {i : Nat} (h : loB (byt t i) = true) : i < t.size := in_of (fun e => by rw [e] at h; cases h)
theorem in_sm {t : ByteArray} {i : Nat} (h : smB (byt t i) = true) : i < t.size := in_of (fun e => by rw [e] at h; cases h)
theorem hd_no {t : ByteArray} {i : Nat} (hi : i < 6) (h : byt t i ≠ byt hdN i) : nspL (toL t) = none := by
  unfold nspL
  rw [if_neg]
  intro e
  refine h ?_
  have h1 : byt t i = (((toL t).take 6).getD i 0).toNat := by rw [bytD]; simp [List.getD, List.getElem?_take_of_lt hi]
  rw [h1, e]
  rfl
theorem hd_step {t : ByteArray} {i : Nat} (hi : i < 6) (ht : (toL t).take i = (toL hdN).take i) (h : byt t i = byt hdN i) : i < t.size ∧ (toL t).take (i + 1) = (toL hdN).take (i + 1) := by
  have hlt : i < t.size := in_of (by
    rw [h]
    rcases (by omega : i = 0 ∨ i = 1 ∨ i = 2 ∨ i = 3 ∨ i = 4 ∨ i = 5) with rfl | rfl | rfl | rfl | rfl | rfl <;> decide)
  refine ⟨hlt, ?_⟩
  have hl : i < (toL t).length := by rw [toL_len]; exact hlt
  have hh : i < (toL hdN).length := hi
  rw [List.take_add_one, List.take_add_one, ht, List.getElem?_eq_getElem hl, List.getElem?_eq_getElem hh]
  congr 2
  have e1 : (toL t).getD i 0 = (toL t)[i] := getD_at _ _ hl
  have e2 : (toL hdN).getD i 0 = (toL hdN)[i] := getD_at _ _ hh
  rw [bytD, bytD, e1, e2] at h
  rw [UInt8.toNat_inj.1 h]
theorem run_drop {t : ByteArray} {f : UInt8 → Bool} {a i : Nat} (ha : a ≤ i) (hi : i ≤ t.size) (h : ∀ j, j < i - a → f (((toL t).drop a).getD j 0) = true) (he : f ((toL t).getD i 0) = false) : ctb f ((toL t).drop a) = i - a := by
  refine ctb_run h (by rw [List.length_drop, toL_len]; omega) (.inr ?_)
  rw [getD_drop, show a + (i - a) = i by omega]
  exact he
theorem run_step {t : ByteArray} {f : UInt8 → Bool} {a i : Nat} (ha : a ≤ i) (h : ∀ j, j < i - a → f (((toL t).drop a).getD j 0) = true) (he : f ((toL t).getD i 0) = true) : ∀ j, j < i + 1 - a → f (((toL t).drop a).getD j 0) = true := fun j hj => by
  by_cases e : j = i - a
  · rw [e, getD_drop, show a + (i - a) = i by omega]
    exact he
  · exact h j (by omega)
theorem ext_toL (t : ByteArray) (a i : Nat) (ha : a ≤ i) : toL (t.extract a i) = ((toL t).drop a).take (i - a) := by
  rw [toL_ext, List.drop_take]
def contW (B : ByteArray) (L : List ByteArray) (r : List UInt8) : Option (List UInt8 × List (List UInt8)) :=
  (rdW r).bind fun x => if x.2 = toL tlN then some (toL B, L.map toL ++ x.1) else none
/-- behind the base -/
theorem base_end {t : ByteArray} {i : Nat} (h6 : (toL t).take 6 = toL hdN) (hi : 6 ≤ i) (hz : i ≤ t.size) (h : ∀ j, j < i - 6 → up8 (((toL t).drop 6).getD j 0) = true) (he : upB (byt t i) = false) :
    (smB (byt t i) = true → nspL (toL t) = contW (t.extract 6 i) [] ((toL t).drop i)) ∧ (smB (byt t i) = false → nspL (toL t) = if (toL t).drop i = toL tlN then some (toL (t.extract 6 i), []) else none) := by
  have hn := run_drop (f := up8) hi hz h he
  have hd : ((toL t).drop 6).drop (i - 6) = (toL t).drop i := by rw [List.drop_drop, show 6 + (i - 6) = i by omega]
  have e : nspL (toL t) = (nrest ((toL t).drop i)).map fun ws => (toL (t.extract 6 i), ws) := by
    unfold nspL
    rw [if_pos h6, hn, hd, ← ext_toL t 6 i hi]
  rw [e]
  unfold nrest
  rw [headSm_byt]
  constructor
  · intro hs
    rw [if_pos hs]
    unfold contW
    cases rdW ((toL t).drop i) with
    | none => rfl
    | some x =>
      simp only [Option.bind_some]
      split <;> simp
  · intro hs
    rw [if_neg (by rw [hs]; decide)]
    split <;> rfl
/-- behind a word -/
theorem word_end {t B : ByteArray} {L : List ByteArray} {f i : Nat} (hf : f ≤ i) (hz : i ≤ t.size) (hs : headSm ((toL t).drop f) = true) (h : ∀ j, j < i - f → lo8 (((toL t).drop f).getD j 0) = true) (he : loB (byt t i) = false) :
    f < i ∧ (byt t i = 43 → i < t.size ∧ contW B L ((toL t).drop f) = if headSm ((toL t).drop (i + 1)) = true then contW B (L ++ [t.extract f i]) ((toL t).drop (i + 1)) else none) ∧
      (byt t i ≠ 43 → contW B L ((toL t).drop f) = if (toL t).drop i = toL tlN then some (toL B, (L ++ [t.extract f i]).map toL) else none) := by
  have hn := run_drop (f := lo8) hf hz h he
  have hd : ((toL t).drop f).drop (i - f) = (toL t).drop i := by rw [List.drop_drop, show f + (i - f) = i by omega]
  have hd1 : ((toL t).drop f).drop (i - f + 1) = (toL t).drop (i + 1) := by rw [List.drop_drop, show f + (i - f + 1) = i + 1 by omega]
  refine ⟨?_, fun h43 => ⟨in_of (by omega), ?_⟩, fun h43 => ?_⟩
  · refine Nat.lt_of_le_of_ne hf fun e => ?_
    subst e
    rw [headSm_byt] at hs
    have := sm_lo (c := (toL t).getD f 0) hs
    have h2 : loB (byt t f) = true := this
    rw [h2] at he
    cases he
  · have hi : i < (toL t).length := by rw [toL_len]; exact in_of (by omega)
    have hh : ((toL t).drop i).head? = some 43 := by
      rw [List.drop_eq_getElem_cons hi]
      have e1 : (toL t).getD i 0 = (toL t)[i] := getD_at _ _ hi
      rw [bytD, e1] at h43
      show some _ = _
      rw [show (toL t)[i] = 43 from UInt8.toNat_inj.1 h43]
    unfold contW
    rw [rdW, hn, hd, dif_pos hh, hd1]
    by_cases hc : headSm ((toL t).drop (i + 1)) = true
    · rw [if_pos hc, if_pos hc, ← ext_toL t f i hf]
      cases rdW ((toL t).drop (i + 1)) with
      | none => rfl
      | some x => simp
    · rw [if_neg hc, if_neg hc]; rfl
  · have hh : ¬ ((toL t).drop i).head? = some 43 := by
      intro hh
      by_cases hi : i < (toL t).length
      · rw [List.drop_eq_getElem_cons hi] at hh
        injection hh with hh
        refine h43 ?_
        have e1 : (toL t).getD i 0 = (toL t)[i] := getD_at _ _ hi
        rw [bytD, e1, hh]
        rfl
      · rw [List.drop_eq_nil_of_le (by omega)] at hh
        cases hh
    unfold contW
    rw [rdW, hn, hd, dif_neg hh, ← ext_toL t f i hf]
    simp
end Go.Pat
/- a drawn region whose own operations only read and whose calls leave a world of a class R: ONE walk, in the text's order; of no dump -/
namespace Go.Pin
theorem wp_region_cls {P : Program} (R : World → Prop) {id : Nat} {Q : Exit → Act → World → Prop} {a : Act} {w : World} {l : List Oper} (hm : P.follows .mixedOrders = true) (hB : Region.lexB .any l.toArray = true) (hC : R { w with drawn := w.drawn + 1 })
    (h : ∀ (S : Type) (f : S → World), Nonempty S → (∀ x, R (f x)) → (∀ Y, R Y → ∃ x, Y = f x) → wpQuiet P l.toArray (fun w' => ∃ x, w' = f x) (fun a' => ∀ w', (∃ x, w' = f x) → Q .normal a' w') l a) : (Code.region id l.toArray true).wp P Q a w := by
  have := h {w // R w} Subtype.val ⟨⟨_, hC⟩⟩ (fun x => x.2) (fun Y hY => ⟨⟨Y, hY⟩, rfl⟩)
  exact wp_region_quiet (C := fun w' => ∃ x : {w // R w}, w' = x.val) hm hB ⟨⟨_, hC⟩, rfl⟩ (by simpa using this)
theorem quiet_load {P : Program} {o : Oper} {a : Act} {S : Type} {f : S → World} {K : Act → Prop} (ty : TypeId) (x : Operand) (ho : o.op = .load ty x) (p : Value) (hx : a.eval x = p) (v : Value) (h : ∀ s, (Instr.loadAt ty p).run P (f s) = .ok v (f s)) (hk : K (a.put o.dst v)) : o.quiet P a (fun w' => ∃ x, w' = f x) K :=
  ⟨v, fun w hw => by
    obtain ⟨s, rfl⟩ := hw
    unfold Oper.quietAt execOp
    simp only [ho, hx, Sem.run_bind, Sem.run_pure, Result.andThen_ok, h s]
    exact ⟨rfl, rfl⟩, hk⟩
end Go.Pin
