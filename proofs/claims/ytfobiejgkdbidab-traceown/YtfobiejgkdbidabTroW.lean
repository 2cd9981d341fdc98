import Derived.Test.YtfobiejgkdbidabTroE
import Derived.Deep.QuietTactic
import Derived.BigQuiet
import Derived.Test.YtfobiejgkdbidabTraceOp
namespace Go.Proofs.Ytfobiejgkdbidab
set_option linter.unusedSimpArgs false
set_option linter.unusedVariables false
open Go.ChangeShapes Go.WideShapes Go.ChangeAt Go.RowKit Go.Pin
theorem updF_self {α : Type} (f : Nat → α) (i : Nat) : updF f i (f i) = f := by funext j; unfold updF; split <;> simp_all
theorem updF_updF {α : Type} (f : Nat → α) (i : Nat) (x y : α) : updF (updF f i x) i y = updF f i y := by funext j; unfold updF; split <;> simp_all
theorem upd_upd (it : Nat → It) (c : Nat) (x y : It) : upd (upd it c x) c y = upd it c y := by funext d; unfold upd; split <;> simp_all
theorem updV_updV (v : Nat → Value) (c : Nat) (x y : Value) : updV (updV v c x) c y = updV v c y := by funext d; unfold updV; split <;> simp_all
theorem rep_ev (k : Nat) (x y : Int) : evC (List.replicate k (x, y)) ++ [.int .i64 x, .int .i64 y] = evC (List.replicate (k + 1) (x, y)) := by rw [List.replicate_succ', evC_app]; rfl
theorem rep_rn (k : Nat) (x y z : Int) : rnC (List.replicate k (x, y, z)) ++ [.int .i64 x, .int .i64 y, .int .i64 z] = rnC (List.replicate (k + 1) (x, y, z)) := by rw [List.replicate_succ', rnC_app]; rfl
theorem rnC_one (l : List (Int × Int × Int)) : ∀ u ∈ rnC l, u.oneCell' = true := by
  intro u hu
  simp only [rnC, List.mem_flatMap, List.mem_cons, List.not_mem_nil, or_false] at hu
  obtain ⟨x, _, h | h | h⟩ := hu <;> subst h <;> rfl
set_option maxRecDepth 100000 in
set_option maxHeartbeats 80000000 in
theorem own_walk (vl : Value) (l : List (Int × Int × Bool)) (w : World) (ha : Sl w vl 3 (stC l) l.length) :
    Calls Try.prog 3 #[vl] w fun e w' => e = .returned (.bool true) ∧ Below w.heap.size w w' := by
  have HF : Hid (∀ _ : Unit, _) := fun _ => filled_any vl l w ha
  have HS : Hid (Sl w vl 3 (stC l) l.length) := ha
  clear ha
  obtain ⟨A, hA⟩ : ∃ A, lg (l.take 2000) = A := ⟨_, rfl⟩
  have HA : Hid (lg (l.take 2000) = A) := hA
  have HAL : Hid (A.length ≤ 2000) := by show A.length ≤ 2000; rw [← hA]; exact Nat.le_trans (lg_len _) (by rw [List.length_take]; omega)
  clear hA
  go_enter Try.func3, Try.ntmps3
  go_wp2_with (first
    | (go_at_call 4
       refine (HF.out ()).mono ?_
       clear HF
       rintro e w1 ⟨rfl, ⟨vs, R1⟩, B1⟩
       rw [HA.out] at R1
       have X1 : Hid (Os w.heap.size w (sit (itRec w.heap.size w.heap.size vs A) itNil itNil itNil itNil itNil itNil (fun _ => itNil) (fun _ => itNil)) w1) := by
         have h := (os_nil w).new 0 B1 (itRec w.heap.size w.heap.size vs A) R1 (fun k hk => R1.ge k hk)
         rw [← sit_nil, upd_0] at h
         exact h
       have HS1 : Hid (Sl w1 vl 3 (stC l) l.length) := sl_below B1 HS.out
       clear R1 B1 HS)
    | (go_at_call 5
       refine (logs_any vl l w1 HS1.out).mono ?_
       rintro e w2 ⟨vw, rfl, hq, B2⟩
       rw [HA.out] at hq
       have X2 : Hid (Os w.heap.size w (sit (itRec w.heap.size w.heap.size vs A) (itRow w.heap.size 36 2 vw A.length (evC A)) itNil itNil itNil itNil itNil (fun _ => itNil) (fun _ => itNil)) w2) := by
         have h := X1.out.new 1 B2 (itRow w.heap.size 36 2 vw A.length (evC A)) (owns_mono X1.out.le hq) (fun k hk => (hq.lt k hk).1)
         rw [upd_1] at h
         exact h
       have HW : Hid (∃ a c, vw = .slice a A.length c) := owns_len hq
       clear hq B2 X1 HS1))
  obtain ⟨W4, hW4⟩ : ∃ W, (w2.alloc (box4 (fun _ => .slice none 0 0) 28)).alloc (box4 (fun _ => .slice none 0 0) 30) = W := ⟨_, rfl⟩
  obtain ⟨gL, hgL⟩ : ∃ g, w2.heap.size = g := ⟨_, rfl⟩
  obtain ⟨gR, hgR⟩ : ∃ g, gL + 1 = g := ⟨_, rfl⟩
  have X4 : Hid (Os w.heap.size w (sit (itRec w.heap.size w.heap.size vs A) (itRow w.heap.size 36 2 vw A.length (evC A)) (itBox gL (box4 (fun _ => .slice none 0 0) 28)) (itBox gR (box4 (fun _ => .slice none 0 0) 30)) itNil itNil itNil (fun _ => itNil) (fun _ => itNil)) W4) := by
    have h := X2.out.new 2 ((Below.refl _ w2).alloc (Nat.le_refl _) _) (itBox gL (box4 (fun _ => .slice none 0 0) 28)) (hgL ▸ World.alloc_heap_new w2 _) (fun k hk => by rw [show k = gL from hk, hgL]; exact Nat.le_refl _)
    rw [upd_2] at h
    have hs : (w2.alloc (box4 (fun _ => .slice none 0 0) 28)).heap.size = gR := by rw [size_alloc, hgL, hgR]
    have h2 := h.new 3 ((Below.refl _ _).alloc (Nat.le_refl _) _) (itBox gR (box4 (fun _ => .slice none 0 0) 30)) (hs ▸ World.alloc_heap_new _ _) (fun k hk => by rw [show k = gR from hk, hs]; exact Nat.le_refl _)
    rw [upd_3, hW4] at h2
    exact h2
  clear X2
  unfold box4 at hW4
  simp only [hgL, hgR, hW4]
  have X5 : Hid (∃ vL vR xL xR, (∀ j, j < 0 → xL j = itRow w.heap.size 36 2 (vL j) A.length (evC A) ∧ xR j = itRow w.heap.size 38 3 (vR j) (rn A).length (rnC (rn A))) ∧ Os w.heap.size w (sit (itRec w.heap.size w.heap.size vs A) (itRow w.heap.size 36 2 vw A.length (evC A)) (itBox gL (box4 vL 28)) (itBox gR (box4 vR 30)) itNil itNil itNil xL xR) W4) := ⟨_, _, _, _, fun j hj => absurd hj (Nat.not_lt_zero _), X4.out⟩
  clear X4 hW4 HW
  go_loopw [8] (fun iv W => ∃ i : Nat, i ≤ 4 ∧ iv = .int .i64 i ∧ ∃ vL vR xL xR, (∀ j, j < i → xL j = itRow w.heap.size 36 2 (vL j) A.length (evC A) ∧ xR j = itRow w.heap.size 38 3 (vR j) (rn A).length (rnC (rn A))) ∧ Os w.heap.size w (sit (itRec w.heap.size w.heap.size vs A) (itRow w.heap.size 36 2 vw A.length (evC A)) (itBox gL (box4 vL 28)) (itBox gR (box4 vR 30)) itNil itNil itNil xL xR) W) (fun iv _ => 4 - (intOf iv).toNat)
  case atStart => exact ⟨0, by omega, rfl, X5.out⟩
  case round =>
    clear X5
    obtain ⟨i, hi, rfl, vL, vR, xL, xR, hx, hO⟩ := hrel
    have HX : Hid _ := hx
    have HO : Hid (Os w.heap.size w (sit (itRec w.heap.size w.heap.size vs A) (itRow w.heap.size 36 2 vw A.length (evC A)) (itBox gL (box4 vL 28)) (itBox gR (box4 vR 30)) itNil itNil itNil xL xR) wr) := hO
    clear hx hO
    by_cases hlt : i < 4
    · have hlt' : (i : Int) < 4 := by omega
      have hal := HAL.out
      have C1 : Hid (∀ _ : Unit, _) := fun _ => tEvents_any (.pointer (some ⟨w.heap.size, 0, none⟩)) vs A (by omega) wr (HO.out.rec' 0 rfl).opt
      clear hal
      go_wp2_with (first
        | (go_at_call 6
           refine (C1.out ()).mono ?_
           rintro e W1 ⟨u, rfl, hu, b1⟩
           obtain ⟨ua, uc, rfl⟩ := owns_len hu
           have Y1 : Os w.heap.size w (sit (itRec w.heap.size w.heap.size vs A) (itRow w.heap.size 36 2 vw A.length (evC A)) (itBox gL (box4 vL 28)) (itBox gR (box4 vR 30)) itNil itNil itNil (upd xL i (itRow w.heap.size 36 2 (.slice ua A.length uc) A.length (evC A))) xR) W1 := by
             have h := HO.out.new (10 + i) b1 (itRow w.heap.size 36 2 (.slice ua A.length uc) A.length (evC A)) (owns_mono HO.out.le hu) (fun k hk => (hu.lt k hk).1)
             rw [upd_L _ _ _ _ _ _ _ _ _ _ hlt] at h
             exact h
           have c1 := box4_cell (Y1.box 2 rfl) hlt
           have f1 := box4_froz (Y1.box 2 rfl) i
           have Y2 : Hid (Os w.heap.size w (sit (itRec w.heap.size w.heap.size vs A) (itRow w.heap.size 36 2 vw A.length (evC A)) (itBox gL (box4 (updV vL i (.slice ua A.length uc)) 28)) (itBox gR (box4 vR 30)) itNil itNil itNil (upd xL i (itRow w.heap.size 36 2 (.slice ua A.length uc) A.length (evC A))) xR) (W1.setCell ⟨gL, i, none⟩ (.slice ua A.length uc))) := by
             have h := Y1.put4 2 gL rfl hlt (.slice ua A.length uc)
             rw [upd_2] at h
             exact h
           have hal := HAL.out
           have C2 : Hid (∀ _ : Unit, _) := fun _ => tRuns_any (.pointer (some ⟨w.heap.size, 0, none⟩)) vs A (by omega) (W1.setCell ⟨gL, i, none⟩ (.slice ua A.length uc)) (Y2.out.rec' 0 rfl).opt
           clear C1 hu b1 Y1 hal)
        | (go_at_call 7
           refine (C2.out ()).mono ?_
           rintro e W2 ⟨u2, rfl, hu2, b2⟩
           obtain ⟨ua2, uc2, rfl⟩ := owns_len hu2
           have Y3 : Os w.heap.size w (sit (itRec w.heap.size w.heap.size vs A) (itRow w.heap.size 36 2 vw A.length (evC A)) (itBox gL (box4 (updV vL i (.slice ua A.length uc)) 28)) (itBox gR (box4 vR 30)) itNil itNil itNil (upd xL i (itRow w.heap.size 36 2 (.slice ua A.length uc) A.length (evC A))) (upd xR i (itRow w.heap.size 38 3 (.slice ua2 (rn A).length uc2) (rn A).length (rnC (rn A))))) W2 := by
             have h := Y2.out.new (20 + i) b2 (itRow w.heap.size 38 3 (.slice ua2 (rn A).length uc2) (rn A).length (rnC (rn A))) (owns_mono Y2.out.le hu2) (fun k hk => (hu2.lt k hk).1)
             rw [upd_R _ _ _ _ _ _ _ _ _ _ hlt] at h
             exact h
           clear c1 f1
           have c1 := box4_cell (Y3.box 3 rfl) hlt
           have f1 := box4_froz (Y3.box 3 rfl) i
           have Y4 : Hid (Os w.heap.size w (sit (itRec w.heap.size w.heap.size vs A) (itRow w.heap.size 36 2 vw A.length (evC A)) (itBox gL (box4 (updV vL i (.slice ua A.length uc)) 28)) (itBox gR (box4 (updV vR i (.slice ua2 (rn A).length uc2)) 30)) itNil itNil itNil (upd xL i (itRow w.heap.size 36 2 (.slice ua A.length uc) A.length (evC A))) (upd xR i (itRow w.heap.size 38 3 (.slice ua2 (rn A).length uc2) (rn A).length (rnC (rn A))))) (W2.setCell ⟨gR, i, none⟩ (.slice ua2 (rn A).length uc2))) := by
             have h := Y3.put4 3 gR rfl hlt (.slice ua2 (rn A).length uc2)
             rw [upd_3] at h
             exact h
           clear C2 hu2 b2 Y3 Y2))
      go_roundw
      case rel =>
        refine ⟨i + 1, by omega, by go_num, _, _, _, _, fun j hj => ?_, Y4.out⟩
        by_cases e : j = i
        · subst e; rw [upd_at, upd_at, updV_at, updV_at]; exact ⟨rfl, rfl⟩
        · rw [upd_ne _ _ e, upd_ne _ _ e, updV_ne _ _ e, updV_ne _ _ e]; exact HX.out j (by omega)
      case measure => simp [intOf]; omega
    · have hn4 : ¬ (i : Int) < 4 := by omega
      obtain rfl : i = 4 := by omega
      go_wp2_with fail
      clear hn4
      have HXL : Hid (∀ j, j < 4 → xL j = itRow w.heap.size 36 2 (vL j) A.length (evC A)) := fun j hj => (HX.out j hj).1
      have HXR : Hid (∀ j, j < 4 → xR j = itRow w.heap.size 38 3 (vR j) (rn A).length (rnC (rn A))) := fun j hj => (HX.out j hj).2
      clear HX
      go_loopw [9] (fun iv W => ∃ i : Nat, i ≤ 4 ∧ iv = .int .i64 i ∧ Os w.heap.size w (sit (itRec w.heap.size w.heap.size vs A) (itRow w.heap.size 36 2 vw A.length (evC A)) (itBox gL (box4 vL 28)) (itBox gR (box4 vR 30)) itNil itNil itNil xL xR) W) (fun iv _ => 4 - (intOf iv).toNat)
      case atStart => exact ⟨0, by omega, rfl, HO.out⟩
      case round =>
        clear HO
        obtain ⟨i, hi, rfl, hO⟩ := hrel
        have HO : Hid (Os w.heap.size w (sit (itRec w.heap.size w.heap.size vs A) (itRow w.heap.size 36 2 vw A.length (evC A)) (itBox gL (box4 vL 28)) (itBox gR (box4 vR 30)) itNil itNil itNil xL xR) wr) := hO
        clear hO
        by_cases hlt : i < 4
        · have hlt' : (i : Int) < 4 := by omega
          have o1 : wr.ownsRow w.heap.size 36 2 (vL i) A.length (evC A) := HO.out.row (10 + i) (by rw [sit_L _ _ _ _ _ _ _ _ _ hlt]; exact HXL.out i hlt)
          have o2 : wr.ownsRow w.heap.size 38 3 (vR i) (rn A).length (rnC (rn A)) := HO.out.row (20 + i) (by rw [sit_R _ _ _ _ _ _ _ _ _ hlt]; exact HXR.out i hlt)
          have o3 : wr.ownsRow w.heap.size 38 3 (vR 0) (rn A).length (rnC (rn A)) := HO.out.row (20 + 0) (by rw [sit_R _ _ _ _ _ _ _ _ _ (by omega)]; exact HXR.out 0 (by omega))
          have o4 : wr.ownsRow w.heap.size 36 2 vw A.length (evC A) := HO.out.row 1 rfl
          have c1 := box4_cell (HO.out.box 2 rfl) hlt
          have c2 := box4_cell (HO.out.box 3 rfl) hlt
          have c3 := box4_cell (HO.out.box 3 rfl) (i := 0) (by omega)
          obtain ⟨a1, b1, e1⟩ := owns_len o1
          obtain ⟨a2, b2, e2⟩ := owns_len o2
          obtain ⟨a3, b3, e3⟩ := owns_len o3
          rw [e1] at c1 o1
          rw [e2] at c2 o2
          rw [e3] at c3 o3
          have hal := HAL.out
          have hml : (rn A).length ≤ 2000 := Nat.le_trans (rn_bound A).1 hal
          have CE : Hid (∀ m, Calls Try.prog 8 #[.slice a1 A.length b1, vw] (wr.drewN m) fun e w' => e = .returned (.bool true) ∧ ∃ n, w' = wr.drewN n) := fun m => by
            refine (events_any _ _ A A _ (sl_below (dn' m) (sl_of_owns o1)) (sl_below (dn' m) (sl_of_owns o4)) (by omega)).mono ?_
            rintro e w' ⟨rfl, n, rfl⟩
            exact ⟨by simp, m + n, by rw [drewN_add]⟩
          have CR : Hid (∀ m, Calls Try.prog 9 #[.slice a2 (rn A).length b2, .slice a3 (rn A).length b3] (wr.drewN m) fun e w' => e = .returned (.bool true) ∧ ∃ n, w' = wr.drewN n) := fun m => by
            refine (runs_any _ _ (rn A) (rn A) _ (sl_below (dn' m) (sl_of_owns o2)) (sl_below (dn' m) (sl_of_owns o3)) (by omega)).mono ?_
            rintro e w' ⟨rfl, n, rfl⟩
            exact ⟨by simp, m + n, by rw [drewN_add]⟩
          clear o1 o2 o3 o4 e1 e2 e3 hal hml
          generalize (rn A).length = M at *
          go_wp2_with fail
          go_quiet (first
            | (go_at_call 8; exact CE.out _)
            | (go_at_call 9; exact CR.out _))
          have HO' : Hid (Os w.heap.size w (sit (itRec w.heap.size w.heap.size vs A) (itRow w.heap.size 36 2 vw A.length (evC A)) (itBox gL (box4 vL 28)) (itBox gR (box4 vR 30)) itNil itNil itNil xL xR) (wr.drewN nq)) := HO.out.below (dn' nq)
          clear HO CE CR c1 c2 c3
          go_wp2_with fail
          go_roundw
          case rel => exact ⟨i + 1, by omega, by go_num, HO'.out⟩
          case measure => simp [intOf]; omega
        · have hn4 : ¬ (i : Int) < 4 := by omega
          obtain rfl : i = 4 := by omega
          clear hn4
          obtain ⟨W6, hW6⟩ : ∃ W, wr.alloc (.cells #[] 38) = W := ⟨_, rfl⟩
          obtain ⟨g0, hg0⟩ : ∃ g, wr.heap.size = g := ⟨_, rfl⟩
          have OWN : Hid (W6.ownsRow w.heap.size 38 3 (.slice (some ⟨g0, 0, none⟩) 0 0) 0 []) := ⟨rfl, .inr ⟨g0, 0, #[], rfl, hg0 ▸ HO.out.le, by rw [← hW6, ← hg0]; exact World.alloc_heap_new wr _, Nat.le_refl _, by decide, rfl, rfl⟩⟩
          have Z1 : Hid (Os w.heap.size w (sit (itRec w.heap.size w.heap.size vs A) (itRow w.heap.size 36 2 vw A.length (evC A)) (itBox gL (box4 vL 28)) (itBox gR (box4 vR 30)) (itRow w.heap.size 38 3 (.slice (some ⟨g0, 0, none⟩) 0 0) 0 []) itNil itNil xL xR) W6) := by
            have h := HO.out.new 4 (W' := W6) (by rw [← hW6]; exact (Below.refl _ wr).alloc (Nat.le_refl _) _) (itRow w.heap.size 38 3 (.slice (some ⟨g0, 0, none⟩) 0 0) 0 []) OWN.out (fun k hk => by have q : some g0 = some k := hk; cases q; omega)
            rw [upd_4] at h
            exact h
          have o3 : W6.ownsRow w.heap.size 38 3 (vR 0) (rn A).length (rnC (rn A)) := Z1.out.row (20 + 0) (by rw [sit_R _ _ _ _ _ _ _ _ _ (by omega)]; exact HXR.out 0 (by omega))
          have c3 := box4_cell (Z1.out.box 3 rfl) (i := 0) (by omega)
          obtain ⟨a3, b3, e3⟩ := owns_len o3
          rw [e3] at c3 o3
          have O3 : Hid _ := o3
          have hal := HAL.out
          have hml : (rn A).length ≤ 2000 := Nat.le_trans (rn_bound A).1 hal
          have HML : Hid ((rn A).length ≤ 2000) := hml
          obtain ⟨i0, hi0, hz0, hz1, hz2⟩ := info_parts info55
          have HI : Hid (_ ∧ _ ∧ _ ∧ _) := ⟨hi0, hz0, hz1, hz2⟩
          clear o3 hal hml hi0 hz0 hz1 hz2 HO
          go_wp2_with (first | (at_builtin; refine append_list W6 rfl (.tmp 74) (.tmp 76) 29 rfl w.heap.size 38 i0 (.agg #[.int .i64 0, .int .i64 0, .int .i64 0]) 3 24 Try.underlying29 HI.out.1 HI.out.2.1 HI.out.2.2.1 HI.out.2.2.2 rfl (by decide) g0 0 0 [] rfl OWN.out (.slice a3 (rn A).length b3) (rn A).length w.heap.size (rnC (rn A)) rfl O3.out (rnC_one _) (by have := HML.out; simp only [maxLen]; omega) (by have := HML.out; omega) Z1.out.le ?_))
          intro vb W7 k1 k2 k3
          try rw [Nat.zero_add, List.nil_append] at k1
          have Z2 : Hid (Os w.heap.size w (sit (itRec w.heap.size w.heap.size vs A) (itRow w.heap.size 36 2 vw A.length (evC A)) (itBox gL (box4 vL 28)) (itBox gR (box4 vR 30)) (itRow w.heap.size 38 3 vb (rn A).length (rnC (rn A))) itNil itNil xL xR) W7) := by
            have h := Z1.out.grow 4 (W' := W7) ⟨k2.os, k2.tape, k2.output, k2.size, fun k hk hn => k2.block k hk (fun q => hn q.symm)⟩ (itRow w.heap.size 38 3 vb (rn A).length (rnC (rn A))) k1 (fun k hk => by
              rcases k3 with q | q
              · exact .inl (q.symm.trans hk)
              · have := q.symm.trans hk; cases this; exact .inr (Nat.le_refl _))
            rw [upd_4] at h
            exact h
          clear k1 k2 k3 Z1 OWN O3 HI c3 hW6 hg0
          go_wp2_with fail
          have Z3 : Hid (∃ (cL : Nat → List (Int × Int)) (cR : Nat → List (Int × Int × Int)), (∀ j, j < 4 → (cL j).length = A.length ∧ (cR j).length = (rn A).length) ∧ (∀ j, j < 0 → (∀ k, k < A.length → (cL j)[k]? = some ((100 + j : Int), (k : Int))) ∧ ∀ k, k < (rn A).length → (cR j)[k]? = some ((0 : Int), (0 : Int), (-1 - j : Int))) ∧ Os w.heap.size w (sit (itRec w.heap.size w.heap.size vs A) (itRow w.heap.size 36 2 vw A.length (evC A)) (itBox gL (box4 vL 28)) (itBox gR (box4 vR 30)) (itRow w.heap.size 38 3 vb (rn A).length (rnC (rn A))) itNil itNil (fun j => itRow w.heap.size 36 2 (vL j) A.length (evC (cL j))) (fun j => itRow w.heap.size 38 3 (vR j) (rn A).length (rnC (cR j)))) W7) := ⟨fun _ => A, fun _ => rn A, fun j _ => ⟨rfl, rfl⟩, fun j hj => absurd hj (Nat.not_lt_zero _), by
            have h := Z2.out
            rw [sit_ext _ _ _ _ _ _ _ HXL.out HXR.out] at h
            exact h⟩
          clear Z2 HXL HXR
          go_loopw [11] (fun iv W => ∃ i : Nat, i ≤ 4 ∧ iv = .int .i64 i ∧ ∃ (cL : Nat → List (Int × Int)) (cR : Nat → List (Int × Int × Int)), (∀ j, j < 4 → (cL j).length = A.length ∧ (cR j).length = (rn A).length) ∧ (∀ j, j < i → (∀ k, k < A.length → (cL j)[k]? = some ((100 + j : Int), (k : Int))) ∧ ∀ k, k < (rn A).length → (cR j)[k]? = some ((0 : Int), (0 : Int), (-1 - j : Int))) ∧ Os w.heap.size w (sit (itRec w.heap.size w.heap.size vs A) (itRow w.heap.size 36 2 vw A.length (evC A)) (itBox gL (box4 vL 28)) (itBox gR (box4 vR 30)) (itRow w.heap.size 38 3 vb (rn A).length (rnC (rn A))) itNil itNil (fun j => itRow w.heap.size 36 2 (vL j) A.length (evC (cL j))) (fun j => itRow w.heap.size 38 3 (vR j) (rn A).length (rnC (cR j)))) W) (fun iv _ => 4 - (intOf iv).toNat)
          case atStart => exact ⟨0, by omega, rfl, Z3.out⟩
          case round =>
            clear Z3
            obtain ⟨i, hi, rfl, cL, cR, hlen, hdone, hO⟩ := hrel
            have HLN : Hid (∀ j, j < 4 → (cL j).length = A.length ∧ (cR j).length = (rn A).length) := hlen
            have HDN : Hid (∀ j, j < i → (∀ k, k < A.length → (cL j)[k]? = some ((100 + j : Int), (k : Int))) ∧ ∀ k, k < (rn A).length → (cR j)[k]? = some ((0 : Int), (0 : Int), (-1 - j : Int))) := hdone
            have HO : Hid (Os w.heap.size w (sit (itRec w.heap.size w.heap.size vs A) (itRow w.heap.size 36 2 vw A.length (evC A)) (itBox gL (box4 vL 28)) (itBox gR (box4 vR 30)) (itRow w.heap.size 38 3 vb (rn A).length (rnC (rn A))) itNil itNil (fun j => itRow w.heap.size 36 2 (vL j) A.length (evC (cL j))) (fun j => itRow w.heap.size 38 3 (vR j) (rn A).length (rnC (cR j)))) wr) := hO
            clear hlen hdone hO
            by_cases hlt : i < 4
            · have hlt' : (i : Int) < 4 := by omega
              go_wp2_with fail
              go_loopw [12] (fun kv W => ∃ k : Nat, k ≤ A.length ∧ kv = .int .i64 k ∧ ∃ c : List (Int × Int), c.length = A.length ∧ (∀ q, q < k → c[q]? = some ((100 + i : Int), (q : Int))) ∧ Os w.heap.size w (sit (itRec w.heap.size w.heap.size vs A) (itRow w.heap.size 36 2 vw A.length (evC A)) (itBox gL (box4 vL 28)) (itBox gR (box4 vR 30)) (itRow w.heap.size 38 3 vb (rn A).length (rnC (rn A))) itNil itNil (fun j => itRow w.heap.size 36 2 (vL j) A.length (evC ((updF cL i c) j))) (fun j => itRow w.heap.size 38 3 (vR j) (rn A).length (rnC (cR j)))) W) (fun kv _ => A.length - (intOf kv).toNat)
              case atStart => exact ⟨0, by omega, rfl, cL i, (HLN.out i hlt).1, fun q hq => absurd hq (Nat.not_lt_zero _), by rw [updF_self]; exact HO.out⟩
              case round =>
                clear HO
                obtain ⟨k, hk, rfl, c, hc, hcq, hO⟩ := hrel
                have HC : Hid (c.length = A.length ∧ ∀ q, q < k → c[q]? = some ((100 + i : Int), (q : Int))) := ⟨hc, hcq⟩
                have HO : Hid (Os w.heap.size w (sit (itRec w.heap.size w.heap.size vs A) (itRow w.heap.size 36 2 vw A.length (evC A)) (itBox gL (box4 vL 28)) (itBox gR (box4 vR 30)) (itRow w.heap.size 38 3 vb (rn A).length (rnC (rn A))) itNil itNil (fun j => itRow w.heap.size 36 2 (vL j) A.length (evC ((updF cL i c) j))) (fun j => itRow w.heap.size 38 3 (vR j) (rn A).length (rnC (cR j)))) wr) := hO
                have o1 : wr.ownsRow w.heap.size 36 2 (vL i) A.length (evC c) := hO.row (10 + i) (by rw [sit_L _ _ _ _ _ _ _ _ _ hlt, updF_at])
                have c1 := box4_cell (hO.box 2 rfl) hlt
                clear hc hcq hO
                by_cases hkn : k < A.length
                · have hkn' : (k : Int) < (A.length : Int) := by omega
                  have hal := HAL.out
                  obtain ⟨g, b, e1⟩ := (sh_owns o1).resolve_left (fun q => by omega)
                  rw [e1] at c1 o1
                  have d1 : wr.cell? ⟨g, k * 2, none⟩ = _ := o1.cellAt (k * 2) (by omega)
                  have d2 : wr.cell? ⟨g, k * 2 + 1, none⟩ = _ := o1.cellAt (k * 2 + 1) (by omega)
                  obtain ⟨x, hx⟩ : ∃ x, c[k]? = some x := ⟨_, List.getElem?_eq_getElem (by rw [HC.out.1]; exact hkn)⟩
                  rw [(evC_at c k x hx).1] at d1
                  rw [(evC_at c k x hx).2] at d2
                  have f1 := o1.frozenAt (k * 2)
                  have f2 := o1.frozenAt (k * 2 + 1)
                  have HO2 : Hid (Os w.heap.size w (sit (itRec w.heap.size w.heap.size vs A) (itRow w.heap.size 36 2 vw A.length (evC A)) (itBox gL (box4 vL 28)) (itBox gR (box4 vR 30)) (itRow w.heap.size 38 3 vb (rn A).length (rnC (rn A))) itNil itNil (fun j => itRow w.heap.size 36 2 (vL j) A.length (evC ((updF cL i (c.set k ((100 + i : Int), (k : Int)))) j))) (fun j => itRow w.heap.size 38 3 (vR j) (rn A).length (rnC (cR j)))) ((wr.setCell ⟨g, k * 2, none⟩ (.int .i64 (100 + i))).setCell ⟨g, k * 2 + 1, none⟩ (.int .i64 k))) := by
                    have h := HO.out.st2 (10 + i) (g := g) (n := A.length) (cap := b) (l := c) (e := 36) (by rw [sit_L _ _ _ _ _ _ _ _ _ hlt, updF_at, e1]) k (100 + i) k
                    rw [upd_L _ _ _ _ _ _ _ _ _ _ hlt, ← e1, upd_row2, updF_updF] at h
                    exact h
                  clear o1 hx HO
                  go_wp2_with fail
                  go_roundw
                  case rel =>
                    refine ⟨k + 1, by omega, by go_num, _, by rw [List.length_set]; exact HC.out.1, fun q hq => ?_, HO2.out⟩
                    by_cases e : q = k
                    · subst e; rw [List.getElem?_set_self (by rw [HC.out.1]; exact hkn)]
                    · rw [List.getElem?_set_ne (by omega)]; exact HC.out.2 q (by omega)
                  case measure => simp [intOf]; omega
                · obtain ⟨a1, b1, e1⟩ := owns_len o1
                  rw [e1] at c1
                  clear o1
                  have hkn' : ¬ (k : Int) < (A.length : Int) := by omega
                  obtain rfl : k = A.length := by omega
                  go_wp2_with fail
                  clear c1 e1
                  go_loopw [13] (fun kv W => ∃ k : Nat, k ≤ (rn A).length ∧ kv = .int .i64 k ∧ ∃ d : List (Int × Int × Int), d.length = (rn A).length ∧ (∀ q, q < k → d[q]? = some ((0 : Int), (0 : Int), (-1 - i : Int))) ∧ Os w.heap.size w (sit (itRec w.heap.size w.heap.size vs A) (itRow w.heap.size 36 2 vw A.length (evC A)) (itBox gL (box4 vL 28)) (itBox gR (box4 vR 30)) (itRow w.heap.size 38 3 vb (rn A).length (rnC (rn A))) itNil itNil (fun j => itRow w.heap.size 36 2 (vL j) A.length (evC ((updF cL i c) j))) (fun j => itRow w.heap.size 38 3 (vR j) (rn A).length (rnC ((updF cR i d) j)))) W) (fun kv _ => (rn A).length - (intOf kv).toNat)
                  case atStart => exact ⟨0, by omega, rfl, cR i, (HLN.out i hlt).2, fun q hq => absurd hq (Nat.not_lt_zero _), by rw [updF_self]; exact HO.out⟩
                  case round =>
                    clear HO
                    obtain ⟨k, hk, rfl, d, hd, hdq, hO⟩ := hrel
                    have HD : Hid (d.length = (rn A).length ∧ ∀ q, q < k → d[q]? = some ((0 : Int), (0 : Int), (-1 - i : Int))) := ⟨hd, hdq⟩
                    have HO : Hid (Os w.heap.size w (sit (itRec w.heap.size w.heap.size vs A) (itRow w.heap.size 36 2 vw A.length (evC A)) (itBox gL (box4 vL 28)) (itBox gR (box4 vR 30)) (itRow w.heap.size 38 3 vb (rn A).length (rnC (rn A))) itNil itNil (fun j => itRow w.heap.size 36 2 (vL j) A.length (evC ((updF cL i c) j))) (fun j => itRow w.heap.size 38 3 (vR j) (rn A).length (rnC ((updF cR i d) j)))) wr) := hO
                    have o1 : wr.ownsRow w.heap.size 38 3 (vR i) (rn A).length (rnC d) := hO.row (20 + i) (by rw [sit_R _ _ _ _ _ _ _ _ _ hlt, updF_at])
                    have c1 := box4_cell (hO.box 3 rfl) hlt
                    clear hd hdq hO
                    have hml := HML.out
                    by_cases hkm : k < (rn A).length
                    · have hkm' : (k : Int) < ((rn A).length : Int) := by omega
                      obtain ⟨g, b, e1⟩ := (sh_owns o1).resolve_left (fun q => by omega)
                      rw [e1] at c1 o1
                      have d1 : wr.cell? ⟨g, k * 3, none⟩ = _ := o1.cellAt (k * 3) (by omega)
                      have d2 : wr.cell? ⟨g, k * 3 + 1, none⟩ = _ := o1.cellAt (k * 3 + 1) (by omega)
                      have d3 : wr.cell? ⟨g, k * 3 + 2, none⟩ = _ := o1.cellAt (k * 3 + 2) (by omega)
                      obtain ⟨x, hx⟩ : ∃ x, d[k]? = some x := ⟨_, List.getElem?_eq_getElem (by rw [HD.out.1]; exact hkm)⟩
                      rw [(rnC_at d k x hx).1] at d1
                      rw [(rnC_at d k x hx).2.1] at d2
                      rw [(rnC_at d k x hx).2.2] at d3
                      have f1 := o1.frozenAt (k * 3)
                      have f2 := o1.frozenAt (k * 3 + 1)
                      have f3 := o1.frozenAt (k * 3 + 2)
                      have HO2 : Hid (Os w.heap.size w (sit (itRec w.heap.size w.heap.size vs A) (itRow w.heap.size 36 2 vw A.length (evC A)) (itBox gL (box4 vL 28)) (itBox gR (box4 vR 30)) (itRow w.heap.size 38 3 vb (rn A).length (rnC (rn A))) itNil itNil (fun j => itRow w.heap.size 36 2 (vL j) A.length (evC ((updF cL i c) j))) (fun j => itRow w.heap.size 38 3 (vR j) (rn A).length (rnC ((updF cR i (d.set k ((0 : Int), (0 : Int), (-1 - i : Int)))) j)))) (((wr.setCell ⟨g, k * 3, none⟩ (.int .i64 0)).setCell ⟨g, k * 3 + 1, none⟩ (.int .i64 0)).setCell ⟨g, k * 3 + 2, none⟩ (.int .i64 (-1 - i)))) := by
                        have h := HO.out.st3 (20 + i) (g := g) (n := (rn A).length) (cap := b) (l := d) (e := 38) (by rw [sit_R _ _ _ _ _ _ _ _ _ hlt, updF_at, e1]) k 0 0 (-1 - i)
                        rw [upd_R _ _ _ _ _ _ _ _ _ _ hlt, ← e1, upd_row3, updF_updF] at h
                        exact h
                      clear o1 hx HO
                      go_wp2_with fail
                      go_roundw
                      case rel =>
                        refine ⟨k + 1, by omega, by go_num, _, by rw [List.length_set]; exact HD.out.1, fun q hq => ?_, HO2.out⟩
                        by_cases e : q = k
                        · subst e; rw [List.getElem?_set_self (by rw [HD.out.1]; exact hkm)]
                        · rw [List.getElem?_set_ne (by omega)]; exact HD.out.2 q (by omega)
                      case measure => simp [intOf]; omega
                    · obtain ⟨a1, b1, e1⟩ := owns_len o1
                      rw [e1] at c1
                      clear o1
                      have hkm' : ¬ (k : Int) < ((rn A).length : Int) := by omega
                      obtain rfl : k = (rn A).length := by omega
                      go_wp2_with fail
                      go_roundw
                      case rel =>
                        refine ⟨i + 1, by omega, by go_num, updF cL i c, updF cR i d, fun j hj => ?_, fun j hj => ?_, HO.out⟩
                        · by_cases e : j = i
                          · subst e; rw [updF_at, updF_at]; exact ⟨HC.out.1, HD.out.1⟩
                          · rw [updF_ne _ _ e, updF_ne _ _ e]; exact HLN.out j hj
                        · by_cases e : j = i
                          · subst e; rw [updF_at, updF_at]; exact ⟨HC.out.2, HD.out.2⟩
                          · rw [updF_ne _ _ e, updF_ne _ _ e]; exact HDN.out j (by omega)
                      case measure => simp [intOf]; omega
            · have hn4 : ¬ (i : Int) < 4 := by omega
              have h4 : i = 4 := by omega
              rw [h4] at HDN
              have HO0 : Hid (Os w.heap.size w (sit (itRec w.heap.size w.heap.size vs A) (itRow w.heap.size 36 2 vw A.length (evC A)) (itBox gL (box4 vL 28)) (itBox gR (box4 vR 30)) (itRow w.heap.size 38 3 vb (rn A).length (rnC (rn A))) itNil itNil (fun j => itRow w.heap.size 36 2 (vL j) A.length (evC (cL j))) (fun j => itRow w.heap.size 38 3 (vR j) (rn A).length (rnC (cR j)))) wr) := HO.out
              clear HO h4
              go_wp2_with fail
              obtain ⟨W8, hW8⟩ : ∃ W, (wr.alloc (box4 (fun _ => .slice none 0 0) 28)).alloc (box4 (fun _ => .slice none 0 0) 30) = W := ⟨_, rfl⟩
              obtain ⟨gA, hgA⟩ : ∃ g, wr.heap.size = g := ⟨_, rfl⟩
              obtain ⟨gB, hgB⟩ : ∃ g, gA + 1 = g := ⟨_, rfl⟩
              have X8 : Hid (Os w.heap.size w (sit (itRec w.heap.size w.heap.size vs A) (itRow w.heap.size 36 2 vw A.length (evC A)) (itBox gL (box4 vL 28)) (itBox gR (box4 vR 30)) (itRow w.heap.size 38 3 vb (rn A).length (rnC (rn A))) (itBox gA (box4 (fun _ => .slice none 0 0) 28)) (itBox gB (box4 (fun _ => .slice none 0 0) 30)) (fun j => itRow w.heap.size 36 2 (vL j) A.length (evC (cL j))) (fun j => itRow w.heap.size 38 3 (vR j) (rn A).length (rnC (cR j)))) W8) := by
                have h := HO0.out.new 5 ((Below.refl _ wr).alloc (Nat.le_refl _) _) (itBox gA (box4 (fun _ => .slice none 0 0) 28)) (hgA ▸ World.alloc_heap_new wr _) (fun k hk => by rw [show k = gA from hk, hgA]; exact Nat.le_refl _)
                rw [upd_5] at h
                have hs : (wr.alloc (box4 (fun _ => .slice none 0 0) 28)).heap.size = gB := by rw [size_alloc, hgA, hgB]
                have h2 := h.new 6 ((Below.refl _ _).alloc (Nat.le_refl _) _) (itBox gB (box4 (fun _ => .slice none 0 0) 30)) (hs ▸ World.alloc_heap_new _ _) (fun k hk => by rw [show k = gB from hk, hs]; exact Nat.le_refl _)
                rw [upd_6, hW8] at h2
                exact h2
              clear HO0
              unfold box4 at hW8
              simp only [hgA, hgB, hW8]
              have X9 : Hid (∃ vA vB xL xR, (∀ j, j < 4 → (j < 0 → xL j = itTwo w.heap.size 36 2 (vL j) A.length (evC (cL j)) (vA j) (A.length + 70) (evC (List.replicate 70 ((200 + j : Int), (0 : Int)))) ∧ xR j = itTwo w.heap.size 38 3 (vR j) (rn A).length (rnC (cR j)) (vB j) ((rn A).length + 70) (rnC (List.replicate 70 ((0 : Int), (0 : Int), (-11 - j : Int))))) ∧ (0 ≤ j → xL j = itRow w.heap.size 36 2 (vL j) A.length (evC (cL j)) ∧ xR j = itRow w.heap.size 38 3 (vR j) (rn A).length (rnC (cR j)))) ∧ Os w.heap.size w (sit (itRec w.heap.size w.heap.size vs A) (itRow w.heap.size 36 2 vw A.length (evC A)) (itBox gL (box4 vL 28)) (itBox gR (box4 vR 30)) (itRow w.heap.size 38 3 vb (rn A).length (rnC (rn A))) (itBox gA (box4 vA 28)) (itBox gB (box4 vB 30)) xL xR) W8) := ⟨_, _, _, _, fun j hj => ⟨fun h => absurd h (Nat.not_lt_zero _), fun _ => ⟨rfl, rfl⟩⟩, X8.out⟩
              clear X8 hW8 hgA hgB
              go_loopw [16] (fun iv W => ∃ i : Nat, i ≤ 4 ∧ iv = .int .i64 i ∧ ∃ vA vB xL xR, (∀ j, j < 4 → (j < i → xL j = itTwo w.heap.size 36 2 (vL j) A.length (evC (cL j)) (vA j) (A.length + 70) (evC (List.replicate 70 ((200 + j : Int), (0 : Int)))) ∧ xR j = itTwo w.heap.size 38 3 (vR j) (rn A).length (rnC (cR j)) (vB j) ((rn A).length + 70) (rnC (List.replicate 70 ((0 : Int), (0 : Int), (-11 - j : Int))))) ∧ (i ≤ j → xL j = itRow w.heap.size 36 2 (vL j) A.length (evC (cL j)) ∧ xR j = itRow w.heap.size 38 3 (vR j) (rn A).length (rnC (cR j)))) ∧ Os w.heap.size w (sit (itRec w.heap.size w.heap.size vs A) (itRow w.heap.size 36 2 vw A.length (evC A)) (itBox gL (box4 vL 28)) (itBox gR (box4 vR 30)) (itRow w.heap.size 38 3 vb (rn A).length (rnC (rn A))) (itBox gA (box4 vA 28)) (itBox gB (box4 vB 30)) xL xR) W) (fun iv _ => 4 - (intOf iv).toNat)
              case atStart => exact ⟨0, by omega, rfl, X9.out⟩
              case round =>
                clear X9
                obtain ⟨i, hi, rfl, vA, vB, xL, xR, hx, hO⟩ := hrel
                have HX : Hid _ := hx
                have HO : Hid (Os w.heap.size w (sit (itRec w.heap.size w.heap.size vs A) (itRow w.heap.size 36 2 vw A.length (evC A)) (itBox gL (box4 vL 28)) (itBox gR (box4 vR 30)) (itRow w.heap.size 38 3 vb (rn A).length (rnC (rn A))) (itBox gA (box4 vA 28)) (itBox gB (box4 vB 30)) xL xR) wr) := hO
                clear hx hO
                by_cases hlt : i < 4
                · have hlt' : (i : Int) < 4 := by omega
                  have o1 : wr.ownsRow w.heap.size 36 2 (vL i) A.length (evC (cL i)) := HO.out.row (10 + i) (by rw [sit_L _ _ _ _ _ _ _ _ _ hlt]; exact ((HX.out i hlt).2 (Nat.le_refl _)).1)
                  have o2 : wr.ownsRow w.heap.size 38 3 (vR i) (rn A).length (rnC (cR i)) := HO.out.row (20 + i) (by rw [sit_R _ _ _ _ _ _ _ _ _ hlt]; exact ((HX.out i hlt).2 (Nat.le_refl _)).2)
                  obtain ⟨a1, b1, e1⟩ := owns_len o1
                  obtain ⟨a2, b2, e2⟩ := owns_len o2
                  clear o1 o2
                  have c1 := box4_cell (HO.out.box 2 rfl) hlt
                  have c2 := box4_cell (HO.out.box 5 rfl) hlt
                  have f2 := box4_froz (HO.out.box 5 rfl) i
                  rw [e1] at c1
                  obtain ⟨W1, hW1⟩ : ∃ W, wr.setCell ⟨gA, i, none⟩ (.slice a1 A.length b1) = W := ⟨_, rfl⟩
                  have Y1 : Os w.heap.size w (sit (itRec w.heap.size w.heap.size vs A) (itRow w.heap.size 36 2 vw A.length (evC A)) (itBox gL (box4 vL 28)) (itBox gR (box4 vR 30)) (itRow w.heap.size 38 3 vb (rn A).length (rnC (rn A))) (itBox gA (box4 (updV vA i (vL i)) 28)) (itBox gB (box4 vB 30)) xL xR) W1 := by
                    have h := HO.out.put4 5 gA rfl hlt (vL i)
                    rw [upd_5, e1, hW1, ← e1] at h
                    exact h
                  have c3 := box4_cell (Y1.box 3 rfl) hlt
                  have c4 := box4_cell (Y1.box 6 rfl) hlt
                  have f4 := box4_froz (Y1.box 6 rfl) i
                  rw [e2] at c3
                  obtain ⟨W2, hW2⟩ : ∃ W, W1.setCell ⟨gB, i, none⟩ (.slice a2 (rn A).length b2) = W := ⟨_, rfl⟩
                  have Y2 : Hid (Os w.heap.size w (sit (itRec w.heap.size w.heap.size vs A) (itRow w.heap.size 36 2 vw A.length (evC A)) (itBox gL (box4 vL 28)) (itBox gR (box4 vR 30)) (itRow w.heap.size 38 3 vb (rn A).length (rnC (rn A))) (itBox gA (box4 (updV vA i (vL i)) 28)) (itBox gB (box4 (updV vB i (vR i)) 30)) (upd xL i (itTwo w.heap.size 36 2 (vL i) A.length (evC (cL i)) (vL i) (A.length) (evC (List.replicate 0 ((200 + i : Int), (0 : Int)))))) (upd xR i (itTwo w.heap.size 38 3 (vR i) (rn A).length (rnC (cR i)) (vR i) ((rn A).length) (rnC (List.replicate 0 ((0 : Int), (0 : Int), (-11 - i : Int))))))) W2) := by
                    have h := Y1.put4 6 gB rfl hlt (vR i)
                    rw [upd_6, e2, hW2, ← e2] at h
                    have h2 := h.two (10 + i) (by rw [sit_L _ _ _ _ _ _ _ _ _ hlt]; exact ((HX.out i hlt).2 (Nat.le_refl _)).1)
                    rw [upd_L _ _ _ _ _ _ _ _ _ _ hlt] at h2
                    have h3 := h2.two (20 + i) (by rw [sit_R _ _ _ _ _ _ _ _ _ hlt]; exact ((HX.out i hlt).2 (Nat.le_refl _)).2)
                    rw [upd_R _ _ _ _ _ _ _ _ _ _ hlt] at h3
                    exact h3
                  clear Y1 HO
                  go_wp2_with fail
                  clear hW1 hW2 c1 c2 c3 c4 f2 f4 e1 e2
                  go_loopw [17] (fun kv W => ∃ k : Nat, k ≤ 70 ∧ kv = .int .i64 k ∧ ∃ uA uB, Os w.heap.size w (sit (itRec w.heap.size w.heap.size vs A) (itRow w.heap.size 36 2 vw A.length (evC A)) (itBox gL (box4 vL 28)) (itBox gR (box4 vR 30)) (itRow w.heap.size 38 3 vb (rn A).length (rnC (rn A))) (itBox gA (box4 (updV vA i uA) 28)) (itBox gB (box4 (updV vB i uB) 30)) (upd xL i (itTwo w.heap.size 36 2 (vL i) A.length (evC (cL i)) uA (A.length + k) (evC (List.replicate (k) ((200 + i : Int), (0 : Int)))))) (upd xR i (itTwo w.heap.size 38 3 (vR i) (rn A).length (rnC (cR i)) uB ((rn A).length + k) (rnC (List.replicate (k) ((0 : Int), (0 : Int), (-11 - i : Int))))))) W) (fun kv _ => 70 - (intOf kv).toNat)
                  case atStart => exact ⟨0, by omega, rfl, _, _, Y2.out⟩
                  case round =>
                    clear Y2
                    obtain ⟨k, hk, rfl, uA, uB, hO⟩ := hrel
                    have HO : Hid (Os w.heap.size w (sit (itRec w.heap.size w.heap.size vs A) (itRow w.heap.size 36 2 vw A.length (evC A)) (itBox gL (box4 vL 28)) (itBox gR (box4 vR 30)) (itRow w.heap.size 38 3 vb (rn A).length (rnC (rn A))) (itBox gA (box4 (updV vA i uA) 28)) (itBox gB (box4 (updV vB i uB) 30)) (upd xL i (itTwo w.heap.size 36 2 (vL i) A.length (evC (cL i)) uA (A.length + k) (evC (List.replicate (k) ((200 + i : Int), (0 : Int)))))) (upd xR i (itTwo w.heap.size 38 3 (vR i) (rn A).length (rnC (cR i)) uB ((rn A).length + k) (rnC (List.replicate (k) ((0 : Int), (0 : Int), (-11 - i : Int))))))) wr) := hO
                    clear hO
                    by_cases hk7 : k < 70
                    · have hk7' : (k : Int) < 70 := by omega
                      obtain ⟨a1, b1, rfl⟩ := owns_len (HO.out.twoAt (10 + i) (by rw [sit_L _ _ _ _ _ _ _ _ _ hlt, upd_at])).2
                      obtain ⟨a2, b2, rfl⟩ := owns_len (HO.out.twoAt (20 + i) (by rw [sit_R _ _ _ _ _ _ _ _ _ hlt, upd_at])).2
                      have c1 := box4_cell (HO.out.box 5 rfl) hlt
                      rw [updV_at] at c1
                      obtain ⟨W1, hW1⟩ : ∃ W, wr.alloc (.cells #[.int .i64 (200 + i), .int .i64 0] 36) = W := ⟨_, rfl⟩
                      obtain ⟨g1, hg1⟩ : ∃ g, wr.heap.size = g := ⟨_, rfl⟩
                      have Y1 : Hid (Os w.heap.size w (sit (itRec w.heap.size w.heap.size vs A) (itRow w.heap.size 36 2 vw A.length (evC A)) (itBox gL (box4 vL 28)) (itBox gR (box4 vR 30)) (itRow w.heap.size 38 3 vb (rn A).length (rnC (rn A))) (itBox gA (box4 (updV vA i (.slice a1 (A.length + k) b1)) 28)) (itBox gB (box4 (updV vB i (.slice a2 ((rn A).length + k) b2)) 30)) (upd xL i (itTwo w.heap.size 36 2 (vL i) A.length (evC (cL i)) (.slice a1 (A.length + k) b1) (A.length + k) (evC (List.replicate (k) ((200 + i : Int), (0 : Int)))))) (upd xR i (itTwo w.heap.size 38 3 (vR i) (rn A).length (rnC (cR i)) (.slice a2 ((rn A).length + k) b2) ((rn A).length + k) (rnC (List.replicate (k) ((0 : Int), (0 : Int), (-11 - i : Int))))))) W1) := HO.out.below (by rw [← hW1]; exact (Below.refl _ wr).alloc (Nat.le_refl _) _)
                      have n1 : Hid (W1.heap[g1]? = some (.cells #[.int .i64 (200 + i), .int .i64 0] 36)) := by show W1.heap[g1]? = _; rw [← hW1, ← hg1]; exact World.alloc_heap_new wr _
                      obtain ⟨i0, hi0, hz0, hz1, hz2⟩ := info_parts info37
                      have HI : Hid (_ ∧ _ ∧ _ ∧ _) := ⟨hi0, hz0, hz1, hz2⟩
                      have hal := HAL.out
                      clear hi0 hz0 hz1 hz2 HO
                      go_wp2_with (first | (at_builtin; refine append_own_x W1 rfl (.tmp 136) (.tmp 140) 26 rfl w.heap.size 36 i0 (.agg #[.int .i64 0, .int .i64 0]) 2 16 Try.underlying26 HI.out.1 HI.out.2.1 HI.out.2.2.1 HI.out.2.2.2 rfl (by decide) (.slice a1 (A.length + k) b1) (A.length + k) (evC (cL i) ++ evC (List.replicate k ((200 + i : Int), (0 : Int)))) rfl (Y1.out.twoAt (10 + i) (by rw [sit_L _ _ _ _ _ _ _ _ _ hlt, upd_at])).2 ⟨g1, 0, none⟩ 1 1 [.int .i64 (200 + i), .int .i64 0] rfl rfl ?_ ?_ (by unfold maxLen; omega) (by omega) Y1.out.le ?_))
                      · intro j u hj
                        match j, hj with
                        | 0, hj => simp at hj; subst hj; simp [Addr.add, World.cell?, n1.out]
                        | 1, hj => simp at hj; subst hj; simp [Addr.add, World.cell?, n1.out]
                      · intro u hu
                        simp at hu
                        rcases hu with rfl | rfl <;> rfl
                      intro v' W2 k1 k2 k3 k4
                      obtain ⟨a3, b3, rfl⟩ := owns_len k1
                      try rw [← List.append_assoc] at k1
                      have Y2 : Os w.heap.size w (sit (itRec w.heap.size w.heap.size vs A) (itRow w.heap.size 36 2 vw A.length (evC A)) (itBox gL (box4 vL 28)) (itBox gR (box4 vR 30)) (itRow w.heap.size 38 3 vb (rn A).length (rnC (rn A))) (itBox gA (box4 (updV vA i (.slice a1 (A.length + k) b1)) 28)) (itBox gB (box4 (updV vB i (.slice a2 ((rn A).length + k) b2)) 30)) (upd xL i (itTwo w.heap.size 36 2 (vL i) A.length (evC (cL i)) (.slice a3 (A.length + k + 1) b3) (A.length + k + 1) (evC (List.replicate (k + 1) ((200 + i : Int), (0 : Int)))))) (upd xR i (itTwo w.heap.size 38 3 (vR i) (rn A).length (rnC (cR i)) (.slice a2 ((rn A).length + k) b2) ((rn A).length + k) (rnC (List.replicate (k) ((0 : Int), (0 : Int), (-11 - i : Int))))))) W2 := by
                        have h := Y1.out.app (10 + i) (by rw [sit_L _ _ _ _ _ _ _ _ _ hlt, upd_at]) k1 k2 k3 k4
                        rw [upd_L _ _ _ _ _ _ _ _ _ _ hlt, upd_upd, rep_ev] at h
                        exact h
                      clear k1 k2 k3 k4 hW1 hg1 n1 Y1 HI c1
                      have c1 := box4_cell (Y2.box 5 rfl) hlt
                      have f1 := box4_froz (Y2.box 5 rfl) i
                      obtain ⟨W3, hW3⟩ : ∃ W, W2.setCell ⟨gA, i, none⟩ (.slice a3 (A.length + k + 1) b3) = W := ⟨_, rfl⟩
                      have Y3 : Os w.heap.size w (sit (itRec w.heap.size w.heap.size vs A) (itRow w.heap.size 36 2 vw A.length (evC A)) (itBox gL (box4 vL 28)) (itBox gR (box4 vR 30)) (itRow w.heap.size 38 3 vb (rn A).length (rnC (rn A))) (itBox gA (box4 (updV vA i (.slice a3 (A.length + k + 1) b3)) 28)) (itBox gB (box4 (updV vB i (.slice a2 ((rn A).length + k) b2)) 30)) (upd xL i (itTwo w.heap.size 36 2 (vL i) A.length (evC (cL i)) (.slice a3 (A.length + k + 1) b3) (A.length + k + 1) (evC (List.replicate (k + 1) ((200 + i : Int), (0 : Int)))))) (upd xR i (itTwo w.heap.size 38 3 (vR i) (rn A).length (rnC (cR i)) (.slice a2 ((rn A).length + k) b2) ((rn A).length + k) (rnC (List.replicate (k) ((0 : Int), (0 : Int), (-11 - i : Int))))))) W3 := by
                        have h := Y2.put4 5 gA rfl hlt (.slice a3 (A.length + k + 1) b3)
                        rw [upd_5, updV_updV, hW3] at h
                        exact h
                      have c2 := box4_cell (Y3.box 6 rfl) hlt
                      rw [updV_at] at c2
                      obtain ⟨W4, hW4⟩ : ∃ W, W3.alloc (.cells #[.int .i64 0, .int .i64 0, .int .i64 (-11 - i)] 38) = W := ⟨_, rfl⟩
                      obtain ⟨g2, hg2⟩ : ∃ g, W3.heap.size = g := ⟨_, rfl⟩
                      have Y4 : Hid (Os w.heap.size w (sit (itRec w.heap.size w.heap.size vs A) (itRow w.heap.size 36 2 vw A.length (evC A)) (itBox gL (box4 vL 28)) (itBox gR (box4 vR 30)) (itRow w.heap.size 38 3 vb (rn A).length (rnC (rn A))) (itBox gA (box4 (updV vA i (.slice a3 (A.length + k + 1) b3)) 28)) (itBox gB (box4 (updV vB i (.slice a2 ((rn A).length + k) b2)) 30)) (upd xL i (itTwo w.heap.size 36 2 (vL i) A.length (evC (cL i)) (.slice a3 (A.length + k + 1) b3) (A.length + k + 1) (evC (List.replicate (k + 1) ((200 + i : Int), (0 : Int)))))) (upd xR i (itTwo w.heap.size 38 3 (vR i) (rn A).length (rnC (cR i)) (.slice a2 ((rn A).length + k) b2) ((rn A).length + k) (rnC (List.replicate (k) ((0 : Int), (0 : Int), (-11 - i : Int))))))) W4) := Y3.below (by rw [← hW4]; exact (Below.refl _ W3).alloc (Nat.le_refl _) _)
                      have n2 : Hid (W4.heap[g2]? = some (.cells #[.int .i64 0, .int .i64 0, .int .i64 (-11 - i)] 38)) := by show W4.heap[g2]? = _; rw [← hW4, ← hg2]; exact World.alloc_heap_new W3 _
                      obtain ⟨i1, hi0, hz0, hz1, hz2⟩ := info_parts info55
                      have HI : Hid (_ ∧ _ ∧ _ ∧ _) := ⟨hi0, hz0, hz1, hz2⟩
                      have hml := HML.out
                      clear hi0 hz0 hz1 hz2 Y2 Y3
                      go_wp2_with (first | (at_builtin; refine append_own_x W4 rfl (.tmp 146) (.tmp 150) 29 rfl w.heap.size 38 i1 (.agg #[.int .i64 0, .int .i64 0, .int .i64 0]) 3 24 Try.underlying29 HI.out.1 HI.out.2.1 HI.out.2.2.1 HI.out.2.2.2 rfl (by decide) (.slice a2 ((rn A).length + k) b2) ((rn A).length + k) (rnC (cR i) ++ rnC (List.replicate k ((0 : Int), (0 : Int), (-11 - i : Int)))) rfl (Y4.out.twoAt (20 + i) (by rw [sit_R _ _ _ _ _ _ _ _ _ hlt, upd_at])).2 ⟨g2, 0, none⟩ 1 1 [.int .i64 0, .int .i64 0, .int .i64 (-11 - i)] rfl rfl ?_ ?_ (by unfold maxLen; omega) (by omega) Y4.out.le ?_))
                      · intro j u hj
                        match j, hj with
                        | 0, hj => simp at hj; subst hj; simp [Addr.add, World.cell?, n2.out]
                        | 1, hj => simp at hj; subst hj; simp [Addr.add, World.cell?, n2.out]
                        | 2, hj => simp at hj; subst hj; simp [Addr.add, World.cell?, n2.out]
                      · intro u hu
                        simp at hu
                        rcases hu with rfl | rfl <;> rfl
                      intro v' W5 k1 k2 k3 k4
                      obtain ⟨a4, b4, rfl⟩ := owns_len k1
                      try rw [← List.append_assoc] at k1
                      have Y5 : Os w.heap.size w (sit (itRec w.heap.size w.heap.size vs A) (itRow w.heap.size 36 2 vw A.length (evC A)) (itBox gL (box4 vL 28)) (itBox gR (box4 vR 30)) (itRow w.heap.size 38 3 vb (rn A).length (rnC (rn A))) (itBox gA (box4 (updV vA i (.slice a3 (A.length + k + 1) b3)) 28)) (itBox gB (box4 (updV vB i (.slice a2 ((rn A).length + k) b2)) 30)) (upd xL i (itTwo w.heap.size 36 2 (vL i) A.length (evC (cL i)) (.slice a3 (A.length + k + 1) b3) (A.length + k + 1) (evC (List.replicate (k + 1) ((200 + i : Int), (0 : Int)))))) (upd xR i (itTwo w.heap.size 38 3 (vR i) (rn A).length (rnC (cR i)) (.slice a4 ((rn A).length + k + 1) b4) ((rn A).length + k + 1) (rnC (List.replicate (k + 1) ((0 : Int), (0 : Int), (-11 - i : Int))))))) W5 := by
                        have h := Y4.out.app (20 + i) (by rw [sit_R _ _ _ _ _ _ _ _ _ hlt, upd_at]) k1 k2 k3 k4
                        rw [upd_R _ _ _ _ _ _ _ _ _ _ hlt, upd_upd, rep_rn] at h
                        exact h
                      clear k1 k2 k3 k4 hW3 hW4 hg2 n2 Y4 HI c1 f1 c2
                      have c1 := box4_cell (Y5.box 6 rfl) hlt
                      have f1 := box4_froz (Y5.box 6 rfl) i
                      have Y6 : Hid (Os w.heap.size w (sit (itRec w.heap.size w.heap.size vs A) (itRow w.heap.size 36 2 vw A.length (evC A)) (itBox gL (box4 vL 28)) (itBox gR (box4 vR 30)) (itRow w.heap.size 38 3 vb (rn A).length (rnC (rn A))) (itBox gA (box4 (updV vA i (.slice a3 (A.length + k + 1) b3)) 28)) (itBox gB (box4 (updV vB i (.slice a4 ((rn A).length + k + 1) b4)) 30)) (upd xL i (itTwo w.heap.size 36 2 (vL i) A.length (evC (cL i)) (.slice a3 (A.length + k + 1) b3) (A.length + k + 1) (evC (List.replicate (k + 1) ((200 + i : Int), (0 : Int)))))) (upd xR i (itTwo w.heap.size 38 3 (vR i) (rn A).length (rnC (cR i)) (.slice a4 ((rn A).length + k + 1) b4) ((rn A).length + k + 1) (rnC (List.replicate (k + 1) ((0 : Int), (0 : Int), (-11 - i : Int))))))) (W5.setCell ⟨gB, i, none⟩ (.slice a4 ((rn A).length + k + 1) b4))) := by
                        have h := Y5.put4 6 gB rfl hlt (.slice a4 ((rn A).length + k + 1) b4)
                        rw [upd_6, updV_updV] at h
                        exact h
                      clear Y5
                      go_wp2_with fail
                      go_roundw
                      case rel =>
                        refine ⟨k + 1, by omega, by go_num, (.slice a3 (A.length + (k + 1)) b3), (.slice a4 ((rn A).length + (k + 1)) b4), ?_⟩
                        have h := Y6.out
                        simp only [Nat.add_assoc] at h
                        exact h
                      case measure => simp [intOf]; omega
                    · obtain rfl : k = 70 := by omega
                      go_wp2_with fail
                      go_roundw
                      case rel =>
                        refine ⟨i + 1, by omega, by go_num, _, _, _, _, fun j hj => ⟨fun h => ?_, fun h => ?_⟩, HO.out⟩
                        · by_cases e : j = i
                          · subst e; rw [upd_at, upd_at, updV_at, updV_at]; exact ⟨rfl, rfl⟩
                          · rw [upd_ne _ _ e, upd_ne _ _ e, updV_ne _ _ e, updV_ne _ _ e]; exact (HX.out j hj).1 (by omega)
                        · have e : j ≠ i := by omega
                          rw [upd_ne _ _ e, upd_ne _ _ e]; exact (HX.out j hj).2 (by omega)
                      case measure => simp [intOf]; omega
                · have hn4 : ¬ (i : Int) < 4 := by omega
                  have HO6 : Hid (Os w.heap.size w (sit (itRec w.heap.size w.heap.size vs A) (itRow w.heap.size 36 2 vw A.length (evC A)) (itBox gL (box4 vL 28)) (itBox gR (box4 vR 30)) (itRow w.heap.size 38 3 vb (rn A).length (rnC (rn A))) (itBox gA (box4 vA 28)) (itBox gB (box4 vB 30)) xL xR) wr) := HO.out
                  have HT1 : Hid (∀ (W : World) (i : Nat), i < 4 → Os w.heap.size w (sit (itRec w.heap.size w.heap.size vs A) (itRow w.heap.size 36 2 vw A.length (evC A)) (itBox gL (box4 vL 28)) (itBox gR (box4 vR 30)) (itRow w.heap.size 38 3 vb (rn A).length (rnC (rn A))) (itBox gA (box4 vA 28)) (itBox gB (box4 vB 30)) xL xR) W → (Sl W (vL i) 2 (evC (cL i)) A.length ∧ Sh (vL i) A.length) ∧ (Sl W (vA i) 2 (evC (cL i ++ (List.replicate 70 ((200 + i : Int), (0 : Int))))) (A.length + 70) ∧ Sh (vA i) (A.length + 70))) := fun W i hi h => by
                    have q := h.twoAt (10 + i) (by rw [sit_L _ _ _ _ _ _ _ _ _ hi]; exact ((HX.out i hi).1 (by omega)).1)
                    exact ⟨⟨q.1.1, q.1.2.1⟩, by rw [evC_app]; exact sl_of_owns q.2, sh_owns q.2⟩
                  have HT2 : Hid (∀ (W : World) (i : Nat), i < 4 → Os w.heap.size w (sit (itRec w.heap.size w.heap.size vs A) (itRow w.heap.size 36 2 vw A.length (evC A)) (itBox gL (box4 vL 28)) (itBox gR (box4 vR 30)) (itRow w.heap.size 38 3 vb (rn A).length (rnC (rn A))) (itBox gA (box4 vA 28)) (itBox gB (box4 vB 30)) xL xR) W → (Sl W (vR i) 3 (rnC (cR i)) (rn A).length ∧ Sh (vR i) (rn A).length) ∧ (Sl W (vB i) 3 (rnC (cR i ++ (List.replicate 70 ((0 : Int), (0 : Int), (-11 - i : Int))))) ((rn A).length + 70) ∧ Sh (vB i) ((rn A).length + 70))) := fun W i hi h => by
                    have q := h.twoAt (20 + i) (by rw [sit_R _ _ _ _ _ _ _ _ _ hi]; exact ((HX.out i hi).1 (by omega)).2)
                    exact ⟨⟨q.1.1, q.1.2.1⟩, by rw [rnC_app]; exact sl_of_owns q.2, sh_owns q.2⟩
                  clear HX HO
                  go_wp2_with fail
                  go_loopw [18] (fun iv W => ∃ i : Nat, i ≤ 4 ∧ iv = .int .i64 i ∧ Os w.heap.size w (sit (itRec w.heap.size w.heap.size vs A) (itRow w.heap.size 36 2 vw A.length (evC A)) (itBox gL (box4 vL 28)) (itBox gR (box4 vR 30)) (itRow w.heap.size 38 3 vb (rn A).length (rnC (rn A))) (itBox gA (box4 vA 28)) (itBox gB (box4 vB 30)) xL xR) W) (fun iv _ => 4 - (intOf iv).toNat)
                  case atStart => exact ⟨0, by omega, rfl, HO6.out⟩
                  case round =>
                    clear HO6
                    obtain ⟨i, hi, rfl, hO⟩ := hrel
                    have HO : Hid (Os w.heap.size w (sit (itRec w.heap.size w.heap.size vs A) (itRow w.heap.size 36 2 vw A.length (evC A)) (itBox gL (box4 vL 28)) (itBox gR (box4 vR 30)) (itRow w.heap.size 38 3 vb (rn A).length (rnC (rn A))) (itBox gA (box4 vA 28)) (itBox gB (box4 vB 30)) xL xR) wr) := hO
                    clear hO
                    by_cases hlt : i < 4
                    · have hlt' : (i : Int) < 4 := by omega
                      have c1 := box4_cell (HO.out.box 2 rfl) hlt
                      obtain ⟨a1, b1, e1⟩ := sh_len' (HT1.out wr i hlt HO.out).1.2
                      rw [e1] at c1
                      go_wp2_with fail
                      clear c1 e1
                      go_loopw [20] (fun kv W => ∃ k : Nat, k ≤ A.length + 70 ∧ kv = .int .i64 k ∧ Os w.heap.size w (sit (itRec w.heap.size w.heap.size vs A) (itRow w.heap.size 36 2 vw A.length (evC A)) (itBox gL (box4 vL 28)) (itBox gR (box4 vR 30)) (itRow w.heap.size 38 3 vb (rn A).length (rnC (rn A))) (itBox gA (box4 vA 28)) (itBox gB (box4 vB 30)) xL xR) W) (fun kv _ => A.length + 70 - (intOf kv).toNat)
                      case atStart => exact ⟨0, by omega, rfl, HO.out⟩
                      case round =>
                        clear HO
                        obtain ⟨k, hk, rfl, hO⟩ := hrel
                        have HO : Hid (Os w.heap.size w (sit (itRec w.heap.size w.heap.size vs A) (itRow w.heap.size 36 2 vw A.length (evC A)) (itBox gL (box4 vL 28)) (itBox gR (box4 vR 30)) (itRow w.heap.size 38 3 vb (rn A).length (rnC (rn A))) (itBox gA (box4 vA 28)) (itBox gB (box4 vB 30)) xL xR) wr) := hO
                        have c2 := box4_cell (hO.box 5 rfl) hlt
                        obtain ⟨gx, bx, ex⟩ := sh_some (HT1.out wr i hlt hO).2.2 (by omega)
                        rw [ex] at c2
                        clear hO
                        have hal := HAL.out
                        by_cases hka : k < A.length
                        · have hk1 : (k : Int) < (A.length : Int) + 70 := by omega
                          have hk2 : ¬ (A.length : Int) ≤ (k : Int) := by omega
                          have hk3 : (k : Int) < (A.length : Int) := by omega
                          go_upto_region 51 with fail
                          obtain ⟨W1, hW1⟩ : ∃ W, wr.alloc (.cells #[.int .i64 (100 + i), .int .i64 k] 36) = W := ⟨_, rfl⟩
                          obtain ⟨g1, hg1⟩ : ∃ g, wr.heap.size = g := ⟨_, rfl⟩
                          simp only [hW1, hg1]
                          have bW : Below wr.heap.size wr W1 := by rw [← hW1]; exact (Below.refl _ wr).alloc (Nat.le_refl _) _
                          have HO1 : Hid (Os w.heap.size w (sit (itRec w.heap.size w.heap.size vs A) (itRow w.heap.size 36 2 vw A.length (evC A)) (itBox gL (box4 vL 28)) (itBox gR (box4 vR 30)) (itRow w.heap.size 38 3 vb (rn A).length (rnC (rn A))) (itBox gA (box4 vA 28)) (itBox gB (box4 vB 30)) xL xR) W1) := HO.out.below bW
                          have nW : W1.heap[g1]? = some (.cells #[.int .i64 (100 + i), .int .i64 k] 36) := by rw [← hW1, ← hg1]; exact World.alloc_heap_new wr _
                          have m0 : W1.cell? ⟨g1, 0, none⟩ = some (.int .i64 (100 + i)) := by simp [World.cell?, nW]
                          have m1 : W1.cell? ⟨g1, 1, none⟩ = some (.int .i64 k) := by simp [World.cell?, nW]
                          clear nW
                          clear c2
                          have c2 := box4_cell (HO1.out.box 5 rfl) hlt
                          have dx := (HT1.out W1 i hlt HO1.out).2.1
                          rw [ex] at c2 dx
                          obtain ⟨dx0, dx1⟩ := sl2_at dx (k := k) (x := (100 + i)) (y := k) (by rw [List.getElem?_append_left (by rw [(HLN.out i hlt).1]; exact hka)]; exact (HDN.out i hlt).1 k hka) (by omega)
                          have c1 := box4_cell (HO1.out.box 2 rfl) hlt
                          obtain ⟨gy, by1, ey⟩ := sh_some (HT1.out wr i hlt HO.out).1.2 (by omega)
                          have dy := (HT1.out W1 i hlt HO1.out).1.1
                          rw [ey] at c1 dy
                          obtain ⟨dy0, dy1⟩ := sl2_at dy (k := k) (x := (100 + i)) (y := k) ((HDN.out i hlt).1 k hka) hka
                          clear dy ey
                          clear dx ex hW1 hg1 bW HO
                          go_quiet (fail)
                          have HO2 : Hid (Os w.heap.size w (sit (itRec w.heap.size w.heap.size vs A) (itRow w.heap.size 36 2 vw A.length (evC A)) (itBox gL (box4 vL 28)) (itBox gR (box4 vR 30)) (itRow w.heap.size 38 3 vb (rn A).length (rnC (rn A))) (itBox gA (box4 vA 28)) (itBox gB (box4 vB 30)) xL xR) (W1.drewN nq)) := HO1.out.below (dn' nq)
                          clear HO1 c2 c1 dx0 dx1 dy0 dy1 m0 m1
                          go_wp2_with fail
                          go_roundw
                          case rel => exact ⟨k + 1, by omega, by go_num, HO2.out⟩
                          case measure => simp [intOf]; omega
                        · by_cases hkb : k < A.length + 70
                          · have hk1 : (k : Int) < (A.length : Int) + 70 := by omega
                            have hk2 : (A.length : Int) ≤ (k : Int) := by omega
                            have hk3 : ¬ (k : Int) < (A.length : Int) := by omega
                            go_upto_region 51 with fail
                            obtain ⟨W1, hW1⟩ : ∃ W, wr.alloc (.cells #[.int .i64 (200 + i), .int .i64 0] 36) = W := ⟨_, rfl⟩
                            obtain ⟨g1, hg1⟩ : ∃ g, wr.heap.size = g := ⟨_, rfl⟩
                            simp only [hW1, hg1]
                            have bW : Below wr.heap.size wr W1 := by rw [← hW1]; exact (Below.refl _ wr).alloc (Nat.le_refl _) _
                            have HO1 : Hid (Os w.heap.size w (sit (itRec w.heap.size w.heap.size vs A) (itRow w.heap.size 36 2 vw A.length (evC A)) (itBox gL (box4 vL 28)) (itBox gR (box4 vR 30)) (itRow w.heap.size 38 3 vb (rn A).length (rnC (rn A))) (itBox gA (box4 vA 28)) (itBox gB (box4 vB 30)) xL xR) W1) := HO.out.below bW
                            have nW : W1.heap[g1]? = some (.cells #[.int .i64 (200 + i), .int .i64 0] 36) := by rw [← hW1, ← hg1]; exact World.alloc_heap_new wr _
                            have m0 : W1.cell? ⟨g1, 0, none⟩ = some (.int .i64 (200 + i)) := by simp [World.cell?, nW]
                            have m1 : W1.cell? ⟨g1, 1, none⟩ = some (.int .i64 0) := by simp [World.cell?, nW]
                            clear nW
                            clear c2
                            have c2 := box4_cell (HO1.out.box 5 rfl) hlt
                            have dx := (HT1.out W1 i hlt HO1.out).2.1
                            rw [ex] at c2 dx
                            obtain ⟨dx0, dx1⟩ := sl2_at dx (k := k) (x := (200 + i)) (y := 0) (by rw [List.getElem?_append_right (by rw [(HLN.out i hlt).1]; omega), (HLN.out i hlt).1, List.getElem?_replicate, if_pos (by omega)]) (by omega)
                            clear dx ex hW1 hg1 bW HO
                            go_quiet (fail)
                            have HO2 : Hid (Os w.heap.size w (sit (itRec w.heap.size w.heap.size vs A) (itRow w.heap.size 36 2 vw A.length (evC A)) (itBox gL (box4 vL 28)) (itBox gR (box4 vR 30)) (itRow w.heap.size 38 3 vb (rn A).length (rnC (rn A))) (itBox gA (box4 vA 28)) (itBox gB (box4 vB 30)) xL xR) (W1.drewN nq)) := HO1.out.below (dn' nq)
                            clear HO1 c2 dx0 dx1 m0 m1
                            go_wp2_with fail
                            go_roundw
                            case rel => exact ⟨k + 1, by omega, by go_num, HO2.out⟩
                            case measure => simp [intOf]; omega
                          · have hk1 : ¬ (k : Int) < (A.length : Int) + 70 := by omega
                            clear hal
                            have c3 := box4_cell (HO.out.box 3 rfl) hlt
                            obtain ⟨a3, b3, e3⟩ := sh_len' (HT2.out wr i hlt HO.out).1.2
                            rw [e3] at c3
                            go_wp2_with fail
                            clear c3 e3 c2
                            go_loopw [22] (fun kv W => ∃ k : Nat, k ≤ (rn A).length + 70 ∧ kv = .int .i64 k ∧ Os w.heap.size w (sit (itRec w.heap.size w.heap.size vs A) (itRow w.heap.size 36 2 vw A.length (evC A)) (itBox gL (box4 vL 28)) (itBox gR (box4 vR 30)) (itRow w.heap.size 38 3 vb (rn A).length (rnC (rn A))) (itBox gA (box4 vA 28)) (itBox gB (box4 vB 30)) xL xR) W) (fun kv _ => (rn A).length + 70 - (intOf kv).toNat)
                            case atStart => exact ⟨0, by omega, rfl, HO.out⟩
                            case round =>
                              clear HO hk1 hkb hka hk
                              obtain ⟨k, hk, rfl, hO⟩ := hrel
                              have HO : Hid (Os w.heap.size w (sit (itRec w.heap.size w.heap.size vs A) (itRow w.heap.size 36 2 vw A.length (evC A)) (itBox gL (box4 vL 28)) (itBox gR (box4 vR 30)) (itRow w.heap.size 38 3 vb (rn A).length (rnC (rn A))) (itBox gA (box4 vA 28)) (itBox gB (box4 vB 30)) xL xR) wr) := hO
                              have c2 := box4_cell (hO.box 6 rfl) hlt
                              obtain ⟨gx, bx, ex⟩ := sh_some (HT2.out wr i hlt hO).2.2 (by omega)
                              rw [ex] at c2
                              clear hO
                              have hml := HML.out
                              by_cases hka : k < (rn A).length
                              · have hk1 : (k : Int) < ((rn A).length : Int) + 70 := by omega
                                have hk2 : ¬ ((rn A).length : Int) ≤ (k : Int) := by omega
                                have hk3 : (k : Int) < ((rn A).length : Int) := by omega
                                go_upto_region 60 with fail
                                obtain ⟨W1, hW1⟩ : ∃ W, wr.alloc (.cells #[.int .i64 0, .int .i64 0, .int .i64 (-1 - i)] 38) = W := ⟨_, rfl⟩
                                obtain ⟨g1, hg1⟩ : ∃ g, wr.heap.size = g := ⟨_, rfl⟩
                                simp only [hW1, hg1]
                                have bW : Below wr.heap.size wr W1 := by rw [← hW1]; exact (Below.refl _ wr).alloc (Nat.le_refl _) _
                                have HO1 : Hid (Os w.heap.size w (sit (itRec w.heap.size w.heap.size vs A) (itRow w.heap.size 36 2 vw A.length (evC A)) (itBox gL (box4 vL 28)) (itBox gR (box4 vR 30)) (itRow w.heap.size 38 3 vb (rn A).length (rnC (rn A))) (itBox gA (box4 vA 28)) (itBox gB (box4 vB 30)) xL xR) W1) := HO.out.below bW
                                have nW : W1.heap[g1]? = some (.cells #[.int .i64 0, .int .i64 0, .int .i64 (-1 - i)] 38) := by rw [← hW1, ← hg1]; exact World.alloc_heap_new wr _
                                have m0 : W1.cell? ⟨g1, 0, none⟩ = some (.int .i64 0) := by simp [World.cell?, nW]
                                have m1 : W1.cell? ⟨g1, 1, none⟩ = some (.int .i64 0) := by simp [World.cell?, nW]
                                have m2 : W1.cell? ⟨g1, 2, none⟩ = some (.int .i64 (-1 - i)) := by simp [World.cell?, nW]
                                clear nW
                                clear c2
                                have c2 := box4_cell (HO1.out.box 6 rfl) hlt
                                have dx := (HT2.out W1 i hlt HO1.out).2.1
                                rw [ex] at c2 dx
                                obtain ⟨dx0, dx1, dx2⟩ := sl3_at dx (k := k) (x := 0) (y := 0) (z := (-1 - i)) (by rw [List.getElem?_append_left (by rw [(HLN.out i hlt).2]; exact hka)]; exact (HDN.out i hlt).2 k hka) (by omega)
                                have c1 := box4_cell (HO1.out.box 3 rfl) hlt
                                obtain ⟨gy, by1, ey⟩ := sh_some (HT2.out wr i hlt HO.out).1.2 (by omega)
                                have dy := (HT2.out W1 i hlt HO1.out).1.1
                                rw [ey] at c1 dy
                                obtain ⟨dy0, dy1, dy2⟩ := sl3_at dy (k := k) (x := 0) (y := 0) (z := (-1 - i)) ((HDN.out i hlt).2 k hka) hka
                                clear dy ey
                                clear dx ex hW1 hg1 bW HO
                                go_quiet (fail)
                                have HO2 : Hid (Os w.heap.size w (sit (itRec w.heap.size w.heap.size vs A) (itRow w.heap.size 36 2 vw A.length (evC A)) (itBox gL (box4 vL 28)) (itBox gR (box4 vR 30)) (itRow w.heap.size 38 3 vb (rn A).length (rnC (rn A))) (itBox gA (box4 vA 28)) (itBox gB (box4 vB 30)) xL xR) (W1.drewN nq)) := HO1.out.below (dn' nq)
                                clear HO1 c2 c1 dx0 dx1 dx2 dy0 dy1 dy2 m0 m1 m2
                                go_wp2_with fail
                                go_roundw
                                case rel => exact ⟨k + 1, by omega, by go_num, HO2.out⟩
                                case measure => simp [intOf]; omega
                              · by_cases hkb : k < (rn A).length + 70
                                · have hk1 : (k : Int) < ((rn A).length : Int) + 70 := by omega
                                  have hk2 : ((rn A).length : Int) ≤ (k : Int) := by omega
                                  have hk3 : ¬ (k : Int) < ((rn A).length : Int) := by omega
                                  go_upto_region 60 with fail
                                  obtain ⟨W1, hW1⟩ : ∃ W, wr.alloc (.cells #[.int .i64 0, .int .i64 0, .int .i64 (-11 - i)] 38) = W := ⟨_, rfl⟩
                                  obtain ⟨g1, hg1⟩ : ∃ g, wr.heap.size = g := ⟨_, rfl⟩
                                  simp only [hW1, hg1]
                                  have bW : Below wr.heap.size wr W1 := by rw [← hW1]; exact (Below.refl _ wr).alloc (Nat.le_refl _) _
                                  have HO1 : Hid (Os w.heap.size w (sit (itRec w.heap.size w.heap.size vs A) (itRow w.heap.size 36 2 vw A.length (evC A)) (itBox gL (box4 vL 28)) (itBox gR (box4 vR 30)) (itRow w.heap.size 38 3 vb (rn A).length (rnC (rn A))) (itBox gA (box4 vA 28)) (itBox gB (box4 vB 30)) xL xR) W1) := HO.out.below bW
                                  have nW : W1.heap[g1]? = some (.cells #[.int .i64 0, .int .i64 0, .int .i64 (-11 - i)] 38) := by rw [← hW1, ← hg1]; exact World.alloc_heap_new wr _
                                  have m0 : W1.cell? ⟨g1, 0, none⟩ = some (.int .i64 0) := by simp [World.cell?, nW]
                                  have m1 : W1.cell? ⟨g1, 1, none⟩ = some (.int .i64 0) := by simp [World.cell?, nW]
                                  have m2 : W1.cell? ⟨g1, 2, none⟩ = some (.int .i64 (-11 - i)) := by simp [World.cell?, nW]
                                  clear nW
                                  clear c2
                                  have c2 := box4_cell (HO1.out.box 6 rfl) hlt
                                  have dx := (HT2.out W1 i hlt HO1.out).2.1
                                  rw [ex] at c2 dx
                                  obtain ⟨dx0, dx1, dx2⟩ := sl3_at dx (k := k) (x := 0) (y := 0) (z := (-11 - i)) (by rw [List.getElem?_append_right (by rw [(HLN.out i hlt).2]; omega), (HLN.out i hlt).2, List.getElem?_replicate, if_pos (by omega)]) (by omega)
                                  clear dx ex hW1 hg1 bW HO
                                  go_quiet (fail)
                                  have HO2 : Hid (Os w.heap.size w (sit (itRec w.heap.size w.heap.size vs A) (itRow w.heap.size 36 2 vw A.length (evC A)) (itBox gL (box4 vL 28)) (itBox gR (box4 vR 30)) (itRow w.heap.size 38 3 vb (rn A).length (rnC (rn A))) (itBox gA (box4 vA 28)) (itBox gB (box4 vB 30)) xL xR) (W1.drewN nq)) := HO1.out.below (dn' nq)
                                  clear HO1 c2 dx0 dx1 dx2 m0 m1 m2
                                  go_wp2_with fail
                                  go_roundw
                                  case rel => exact ⟨k + 1, by omega, by go_num, HO2.out⟩
                                  case measure => simp [intOf]; omega
                                · have hk1 : ¬ (k : Int) < ((rn A).length : Int) + 70 := by omega
                                  clear hml
                                  go_wp2_with fail
                                  go_roundw
                                  case rel => exact ⟨i + 1, by omega, by go_num, HO.out⟩
                                  case measure => simp [intOf]; omega
                    · have hn4 : ¬ (i : Int) < 4 := by omega
                      go_wp2_with fail
                      have hal := HAL.out
                      have hml := HML.out
                      obtain ⟨aw, cw, ew⟩ := owns_len (HO.out.row 1 rfl)
                      subst ew
                      have C1 : Hid (∀ _ : Unit, _) := fun _ => tEvents_any (.pointer (some ⟨w.heap.size, 0, none⟩)) vs A (by omega) wr (HO.out.rec' 0 rfl).opt
                      have C2 : Hid (∀ W, RecO W (.pointer (some ⟨w.heap.size, 0, none⟩)) vs A → _) := fun W h => tRuns_any (.pointer (some ⟨w.heap.size, 0, none⟩)) vs A (by omega) W h
                      have C3 : Hid (∀ (u : Value) W, Sl W u 2 (evC A) A.length → Sl W (.slice aw A.length cw) 2 (evC A) A.length → Calls Try.prog 8 #[u, .slice aw A.length cw] W fun e w' => e = .returned (.bool true) ∧ ∃ n, w' = W.drewN n) := fun u W h1 h2 => by
                        refine (events_any _ _ A A _ h1 h2 (by omega)).mono ?_
                        rintro e w' ⟨rfl, n, rfl⟩
                        exact ⟨by simp, n, rfl⟩
                      have C4 : Hid (∀ (u : Value) W, Sl W u 3 (rnC (rn A)) (rn A).length → Sl W vb 3 (rnC (rn A)) (rn A).length → Calls Try.prog 9 #[u, vb] W fun e w' => e = .returned (.bool true) ∧ ∃ n, w' = W.drewN n) := fun u W h1 h2 => by
                        refine (runs_any _ _ (rn A) (rn A) _ h1 h2 (by omega)).mono ?_
                        rintro e w' ⟨rfl, n, rfl⟩
                        exact ⟨by simp, n, rfl⟩
                      clear hal hml
                      go_wp2_with (first
                        | (go_at_call 6
                           refine (C1.out ()).mono ?_
                           rintro e V1 ⟨u, rfl, hu, b1⟩
                           have P1 : Hid (Os w.heap.size w (sit (itRec w.heap.size w.heap.size vs A) (itRow w.heap.size 36 2 (.slice aw A.length cw) A.length (evC A)) (itBox gL (box4 vL 28)) (itBox gR (box4 vR 30)) (itRow w.heap.size 38 3 vb (rn A).length (rnC (rn A))) (itBox gA (box4 vA 28)) (itBox gB (box4 vB 30)) xL xR) V1) := HO.out.below b1
                           have U1 : Hid (Sl V1 u 2 (evC A) A.length) := sl_of_owns hu
                           clear C1 hu b1 HO)
                        | (go_at_call 8
                           refine Calls.mono (C3.out u V1 U1.out (sl_of_owns (P1.out.row 1 rfl))) ?_
                           rintro e V2 ⟨rfl, n1, rfl⟩
                           have P2 : Hid (Os w.heap.size w (sit (itRec w.heap.size w.heap.size vs A) (itRow w.heap.size 36 2 (.slice aw A.length cw) A.length (evC A)) (itBox gL (box4 vL 28)) (itBox gR (box4 vR 30)) (itRow w.heap.size 38 3 vb (rn A).length (rnC (rn A))) (itBox gA (box4 vA 28)) (itBox gB (box4 vB 30)) xL xR) (V1.drewN n1)) := P1.out.below (dn' n1)
                           clear P1 U1 C3)
                        | (go_at_call 7
                           refine Calls.mono (C2.out _ (P2.out.rec' 0 rfl).opt) ?_
                           rintro e V3 ⟨u3, rfl, hu, b1⟩
                           have P3 : Hid (Os w.heap.size w (sit (itRec w.heap.size w.heap.size vs A) (itRow w.heap.size 36 2 (.slice aw A.length cw) A.length (evC A)) (itBox gL (box4 vL 28)) (itBox gR (box4 vR 30)) (itRow w.heap.size 38 3 vb (rn A).length (rnC (rn A))) (itBox gA (box4 vA 28)) (itBox gB (box4 vB 30)) xL xR) V3) := P2.out.below b1
                           have U3 : Hid (Sl V3 u3 3 (rnC (rn A)) (rn A).length) := sl_of_owns hu
                           clear hu b1 P2 C2)
                        | (go_at_call 9
                           refine Calls.mono (C4.out u3 V3 U3.out (sl_of_owns (P3.out.row 4 rfl))) ?_
                           rintro e V4 ⟨rfl, n3, rfl⟩
                           have P4 : Hid (Os w.heap.size w (sit (itRec w.heap.size w.heap.size vs A) (itRow w.heap.size 36 2 (.slice aw A.length cw) A.length (evC A)) (itBox gL (box4 vL 28)) (itBox gR (box4 vR 30)) (itRow w.heap.size 38 3 vb (rn A).length (rnC (rn A))) (itBox gA (box4 vA 28)) (itBox gB (box4 vB 30)) xL xR) (V3.drewN n3)) := P3.out.below (dn' n3)
                           clear P3 U3 C4)
                        | (go_at_call 10
                           refine Calls.mono (total_any _ vs A _ (P4.out.rec' 0 rfl).opt) ?_
                           rintro e V5 ⟨rfl, hv5⟩
                           subst hv5)
                        | (go_at_call 11
                           refine Calls.mono (known_any _) ?_
                           rintro e V6 ⟨rfl, b6⟩
                           have P6 : Hid (Below w.heap.size w V6) := (P4.out.below b6).old
                           clear b6 P4))
                      go_ret
                      exact ⟨by simp, P6.out⟩
end Go.Proofs.Ytfobiejgkdbidab
