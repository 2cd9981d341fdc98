import Derived.Test.YtfeoamkngnpcmaaPrkT
import Derived.Test.YtfeoamkngnpcmaaTrE
import Derived.Test.YtfeoamkngnpcmaaTrS
namespace Go.Proofs.Ytfeoamkngnpcmaa
set_option linter.unusedSimpArgs false
open Go.ChangeShapes Go.WideShapes Go.ChangeAt Go.RowKit Go.Pin Go.Prm
set_option maxRecDepth 100000 in
set_option maxHeartbeats 8000000 in
theorem ends_any (B g R : Nat) (S : Nat → Prop) (es : Nat → List Int) (ns : Nat → Nat) (l : List (Int × Int)) (vs : Value) (w : World) (h : St B g S es ns (.pointer (some ⟨R, 0, none⟩)) l l vs w) (hnum : ∀ i, i < 8 → num (es i) = ns i) (hl : l.length ≤ 1000000) :
    Calls Try.prog 11 #[.pointer (some ⟨g, 0, none⟩)] w fun e w' => e = .returned (.bool true) ∧ Below w.heap.size w w' := by
  have HST : Hid (St B g S es ns (.pointer (some ⟨R, 0, none⟩)) l l vs w) := h
  have HNUM : Hid (∀ i, i < 8 → num (es i) = ns i) := hnum
  clear h hnum
  go_enter Try.func11, Try.ntmps11
  go_wp2
  go_loopw [3] (fun i w' => ∃ k : Nat, k ≤ 8 ∧ i = .int .i64 k ∧ Below w.heap.size w w') (fun i _ => 8 - (intOf i).toNat)
  case atStart => exact ⟨0, Nat.zero_le _, rfl, Below.refl _ _⟩
  case round =>
    obtain ⟨i, hk, rfl, hp⟩ := hrel
    have HP : Hid (Below w.heap.size w wr) := hp
    clear hp
    by_cases hi8 : i < 8
    · have HX : Hid (∀ V9 : World, Below w.heap.size w V9 → V9.rangeAt g (i * 5) ((es i).map (Value.int .u64))) := fun V9 hV => (HST.out.below hV).bn.rangeE hi8
      have HLE : Hid ((es i).length = 5) := (HST.out.bn.lim i hi8).len
      have HY : Hid (∀ V9 : World, Below w.heap.size w V9 → V9.rangeAt g (40 + i * 17) ((bts (ns i)).map (Value.int .i64))) := fun V9 hV => (HST.out.below hV).bn.rangeN hi8
      have HLY : Hid ((bts (ns i)).length = 17) := bts_len _
      obtain ⟨R9, hR⟩ : ∃ R, bts (ns i) = R := ⟨_, rfl⟩
      have C1 : Hid (∀ w, Calls Try.prog 13 #[.agg (VI .u64 (es i))] w fun e w' => e = .returned (.agg (VI .u8 R9)) ∧ Below w.heap.size w w') := fun w => bytes_is (HST.out.bn.lim i hi8) (by rw [HNUM.out i hi8]; exact hR) w
      have C2 : Hid (∀ w, Calls Try.prog 26 #[.agg (VI .i64 (bts (ns i)))] w fun e w' => e = .returned (.agg (VI .u8 R9)) ∧ Below w.heap.size w w') := fun w => (rbytes_any (ns i) w).mono fun e w' hh => ⟨by rw [hh.1, hR], hh.2⟩
      have hq : ∀ w, (Op.equalIn 10000 39 (.agg (VI .u8 R9)) (.agg (VI .u8 R9))).run Try.prog w = .ok true w := fun w => eq17t (by rw [← hR]; exact bts_len _) w
      clear hR
      have hk8 : (i : Int) < 8 := by omega
      generalize es i = X at *
      generalize bts (ns i) = Y at *
      go_wp2
      refine wp_region_quiet_in (C := fun Y => Below w.heap.size w Y) (by kernel_rfl) (by kernel_rfl) (HP.out.drew) ?_
      refine wpQuiet_step (fun K hK => ?_)
      go_simp
      first | refine hK _ ?_ | refine ⟨_, fun _ _ => rfl, hK _ ?_⟩
      clear hK K
      refine wpQuiet_step (fun K hK => ?_)
      go_simp
      first | refine hK _ ?_ | refine ⟨_, fun _ _ => rfl, hK _ ?_⟩
      clear hK K
      refine wpQuiet_step (fun K hK => ?_)
      go_simp
      first | refine hK _ ?_ | refine ⟨_, fun _ _ => rfl, hK _ ?_⟩
      clear hK K
      refine wpQuiet_step (fun K hK => ?_)
      go_simp
      first | refine hK _ ?_ | refine ⟨_, fun _ _ => rfl, hK _ ?_⟩
      clear hK K
      refine wpQuiet_step (fun K hK => ?_)
      go_simp
      first | refine hK _ ?_ | refine ⟨_, fun _ _ => rfl, hK _ ?_⟩
      clear hK K
      refine wpQuiet_step (fun K hK => ?_)
      refine if_pos_mpr (by kernel_rfl) ⟨.agg (VI .u64 X), fun V9 hV => quietAt_load_midV 29 (.tmp 12) rfl g (i * 5) (by kernel_rfl) .u64 X _ (HX.out V9 hV) Try.underlying29 rfl (by rw [HLE.out]; exact infoE), hK _ ?_⟩
      clear hK K
      try simp only [Act.put, List.getElem_toArray, List.getElem_cons_succ, List.getElem_cons_zero, List.getElem?_toArray, List.getElem?_cons_succ, List.getElem?_cons_zero, List.setIfInBounds_toArray, List.set_cons_zero, List.set_cons_succ]
      refine wpQuiet_step (fun K hK => ?_)
      refine if_pos_mpr (by kernel_rfl) ⟨.agg (VI .u8 R9), fun V9 hY => ?_, hK _ ?_⟩
      · go_simp
        exact (C1.out V9).mono fun e w' hh => ⟨hh.1, hY.trans (hh.2.mono hY.size)⟩
      clear hK K
      try simp only [Act.put, List.setIfInBounds_toArray, List.set_cons_zero, List.set_cons_succ]
      refine wpQuiet_step (fun K hK => ?_)
      go_simp
      first | refine hK _ ?_ | refine ⟨_, fun _ _ => rfl, hK _ ?_⟩
      clear hK K
      refine wpQuiet_step (fun K hK => ?_)
      go_simp
      first | refine hK _ ?_ | refine ⟨_, fun _ _ => rfl, hK _ ?_⟩
      clear hK K
      refine wpQuiet_step (fun K hK => ?_)
      go_simp
      first | refine hK _ ?_ | refine ⟨_, fun _ _ => rfl, hK _ ?_⟩
      clear hK K
      refine wpQuiet_step (fun K hK => ?_)
      go_simp
      first | refine hK _ ?_ | refine ⟨_, fun _ _ => rfl, hK _ ?_⟩
      clear hK K
      refine wpQuiet_step (fun K hK => ?_)
      go_simp
      first | refine hK _ ?_ | refine ⟨_, fun _ _ => rfl, hK _ ?_⟩
      clear hK K
      refine wpQuiet_step (fun K hK => ?_)
      refine if_pos_mpr (by kernel_rfl) ⟨.agg (VI .i64 Y), fun V9 hV => quietAt_load_midV 32 (.tmp 19) rfl g (40 + i * 17) (by kernel_rfl) .i64 Y _ (HY.out V9 hV) Try.underlying32 rfl (by rw [HLY.out]; exact infoNum), hK _ ?_⟩
      clear hK K
      try simp only [Act.put, List.getElem_toArray, List.getElem_cons_succ, List.getElem_cons_zero, List.getElem?_toArray, List.getElem?_cons_succ, List.getElem?_cons_zero, List.setIfInBounds_toArray, List.set_cons_zero, List.set_cons_succ]
      refine wpQuiet_step (fun K hK => ?_)
      refine if_pos_mpr (by kernel_rfl) ⟨.agg (VI .u8 R9), fun V9 hY => ?_, hK _ ?_⟩
      · go_simp
        exact (C2.out V9).mono fun e w' hh => ⟨hh.1, hY.trans (hh.2.mono hY.size)⟩
      clear hK K
      try simp only [Act.put, List.setIfInBounds_toArray, List.set_cons_zero, List.set_cons_succ]
      refine wpQuiet_step (fun K hK => ?_)
      go_simp
      first | refine hK _ ?_ | refine ⟨_, fun _ _ => rfl, hK _ ?_⟩
      clear hK K
      refine wpQuiet_nil ?_
      intro wq hq'
      have HQ : Hid (Below w.heap.size w wq) := hq'
      clear hq'
      go_wp2
      go_roundw
      case rel => exact ⟨i + 1, by omega, by go_num, HQ.out⟩
      case measure => simp [intOf]; omega
    · have hk' : i = 8 := by omega
      subst hk'
      have CR : Hid (∀ V9 : World, Below w.heap.size w V9 → V9.cell? ⟨g, 176, none⟩ = some (.pointer (some ⟨R, 0, none⟩))) := fun V9 hV => (HST.out.below hV).bn.r
      have CL : Hid (∀ V9 : World, Below w.heap.size w V9 → V9.cell? ⟨g, 177, none⟩ = some vs) := fun V9 hV => (HST.out.below hV).bn.l
      have HEV : Hid (∀ V9 : World, Below w.heap.size w V9 → Calls Try.prog 30 #[.pointer (some ⟨R, 0, none⟩)] V9 fun e W' => ∃ u, e = .returned u ∧ W'.ownsRow V9.heap.size 64 2 u l.length (evC l) ∧ Below V9.heap.size V9 W') := fun V9 hV => by
        rcases (HST.out.below hV).rc with e | ⟨R', vr, e, h1, _⟩
        · simp at e
        · obtain rfl : R = R' := by simpa using e
          exact tEvents_any _ vr l hl V9 h1.opt
      have HSA : Hid (∀ (V9 : World) (u : Value) (B' : Nat), Below w.heap.size w V9 → V9.ownsRow B' 64 2 u l.length (evC l) → Calls Try.prog 29 #[u, vs] V9 fun e w' => e = .returned (.bool true) ∧ ∃ n, w' = V9.drewN n) := fun V9 u B' hV hu => rsame_any u vs l V9 (sl_of_owns hu) (sl_of_owns (HST.out.below hV).own) (by omega)
      have hu' : ∀ (W : World) (B' : Nat) (u : Value), W.ownsRow B' 64 2 u l.length (evC l) → ∃ a n c, u = .slice a n c := fun W B' u hu => by
        rcases hu.2 with ⟨e, _⟩ | ⟨q, cap, _, e, _⟩
        · exact ⟨_, _, _, e⟩
        · exact ⟨_, _, _, e⟩
      have HU : Hid (∀ (W : World) (B' : Nat) (u : Value), W.ownsRow B' 64 2 u l.length (evC l) → ∃ a n c, u = .slice a n c) := hu'
      clear hu' hi8 hk
      rw [show ((8 : Nat) : Int) = 8 from rfl]
      go_wp2
      refine wp_region_held_drew (S := fun V9 => Below w.heap.size w V9) (by kernel_rfl) (HP.out.drew) (fun hH => ?_)
      refine wpAnyH_take (i := 0) (v := .pointer (some ⟨g, 0, none⟩)) rfl (by kernel_rfl) (by kernel_rfl) (by kernel_rfl) (fun _ _ _ h => h) (Or.inl ⟨by kernel_rfl, fun W hW => ?_⟩) hH ?_
      · go_simp
      try simp only [Act.put, List.getElem_toArray, List.getElem_cons_succ, List.getElem_cons_zero, List.getElem?_toArray, List.getElem?_cons_succ, List.getElem?_cons_zero, List.setIfInBounds_toArray, List.set_cons_zero, List.set_cons_succ]
      refine wpAnyH_take (i := 1) (v := .pointer (some ⟨g, 0, none⟩)) rfl (by kernel_rfl) (by kernel_rfl) (by kernel_rfl) (fun _ _ _ h => h) (Or.inl ⟨by kernel_rfl, fun W hW => ?_⟩) hH ?_
      · go_simp
      try simp only [Act.put, List.getElem_toArray, List.getElem_cons_succ, List.getElem_cons_zero, List.getElem?_toArray, List.getElem?_cons_succ, List.getElem?_cons_zero, List.setIfInBounds_toArray, List.set_cons_zero, List.set_cons_succ]
      refine wpAnyH_take (i := 2) (v := .pointer (some ⟨g, 176, none⟩)) rfl (by kernel_rfl) (by kernel_rfl) (by kernel_rfl) (fun _ _ _ h => h) (Or.inl ⟨by kernel_rfl, fun W hW => ?_⟩) hH ?_
      · go_simp
      try simp only [Act.put, List.getElem_toArray, List.getElem_cons_succ, List.getElem_cons_zero, List.getElem?_toArray, List.getElem?_cons_succ, List.getElem?_cons_zero, List.setIfInBounds_toArray, List.set_cons_zero, List.set_cons_succ]
      refine wpAnyH_take (i := 3) (v := .pointer (some ⟨R, 0, none⟩)) rfl (by kernel_rfl) (by kernel_rfl) (by kernel_rfl) (fun _ _ _ h => h) (Or.inl ⟨by kernel_rfl, fun W hW => ?_⟩) hH ?_
      · have c9 := CR.out W hW; go_simp
      try simp only [Act.put, List.getElem_toArray, List.getElem_cons_succ, List.getElem_cons_zero, List.getElem?_toArray, List.getElem?_cons_succ, List.getElem?_cons_zero, List.setIfInBounds_toArray, List.set_cons_zero, List.set_cons_succ]
      refine wpAnyH_take (i := 5) (v := .pointer (some ⟨g, 0, none⟩)) rfl (by kernel_rfl) (by kernel_rfl) (by kernel_rfl) (fun _ _ _ h => h) (Or.inl ⟨by kernel_rfl, fun W hW => ?_⟩) hH ?_
      · go_simp
      try simp only [Act.put, List.getElem_toArray, List.getElem_cons_succ, List.getElem_cons_zero, List.getElem?_toArray, List.getElem?_cons_succ, List.getElem?_cons_zero, List.setIfInBounds_toArray, List.set_cons_zero, List.set_cons_succ]
      refine wpAnyH_take (i := 6) (v := .pointer (some ⟨g, 0, none⟩)) rfl (by kernel_rfl) (by kernel_rfl) (by kernel_rfl) (fun _ _ _ h => h) (Or.inl ⟨by kernel_rfl, fun W hW => ?_⟩) hH ?_
      · go_simp
      try simp only [Act.put, List.getElem_toArray, List.getElem_cons_succ, List.getElem_cons_zero, List.getElem?_toArray, List.getElem?_cons_succ, List.getElem?_cons_zero, List.setIfInBounds_toArray, List.set_cons_zero, List.set_cons_succ]
      refine wpAnyH_take (i := 7) (v := .pointer (some ⟨g, 177, none⟩)) rfl (by kernel_rfl) (by kernel_rfl) (by kernel_rfl) (fun _ _ _ h => h) (Or.inl ⟨by kernel_rfl, fun W hW => ?_⟩) hH ?_
      · go_simp
      try simp only [Act.put, List.getElem_toArray, List.getElem_cons_succ, List.getElem_cons_zero, List.getElem?_toArray, List.getElem?_cons_succ, List.getElem?_cons_zero, List.setIfInBounds_toArray, List.set_cons_zero, List.set_cons_succ]
      refine wpAnyH_take (i := 8) (v := vs) rfl (by kernel_rfl) (by kernel_rfl) (by kernel_rfl) (fun _ _ _ h => h) (Or.inl ⟨by kernel_rfl, fun W hW => ?_⟩) hH ?_
      · have c9 := CL.out W hW; go_simp
      try simp only [Act.put, List.getElem_toArray, List.getElem_cons_succ, List.getElem_cons_zero, List.getElem?_toArray, List.getElem?_cons_succ, List.getElem?_cons_zero, List.setIfInBounds_toArray, List.set_cons_zero, List.set_cons_succ]
      obtain ⟨V0, hV0⟩ : ∃ V, wr.drew = V := ⟨_, rfl⟩
      rw [hV0] at hH ⊢
      clear hV0
      refine wpAnyH_ready (rs := [4]) (by kernel_rfl) (by simp) (AllReadyH.cons rfl (fun K' hK => ?_) AllReadyH.nil)
      go_simp
      refine (HEV.out _ hH).mono ?_
      rintro e w2 ⟨u, rfl, hu, hb2⟩
      have HH2 : Hid (Below w.heap.size w w2) := hH.trans (hb2.mono hH.size)
      have HOW : Hid (w2.ownsRow V0.heap.size 64 2 u l.length (evC l)) := hu
      obtain ⟨a9, n9, c9, hue⟩ := HU.out _ _ _ hu
      clear hu hb2
      subst hue
      go_wp2_with fail
      refine hK.out _ _ HH2.out (fun hH => ?_)
      clear hK K'
      try simp only [Act.put, List.getElem_toArray, List.getElem_cons_succ, List.getElem_cons_zero, List.getElem?_toArray, List.getElem?_cons_succ, List.getElem?_cons_zero, List.setIfInBounds_toArray, List.set_cons_zero, List.set_cons_succ]
      refine wpAnyH_ready (rs := [9]) (by kernel_rfl) (by simp) (AllReadyH.cons rfl (fun K' hK => ?_) AllReadyH.nil)
      go_simp
      refine (HSA.out _ _ _ HH2.out HOW.out).mono ?_
      rintro e w3 ⟨rfl, n3, hw3⟩
      have HH3 : Hid (Below w.heap.size w w3) := by rw [hw3]; exact below_drewN' HH2.out n3
      clear hw3
      go_wp2_with fail
      refine hK.out _ _ HH3.out (fun hH => ?_)
      clear hK K'
      try simp only [Act.put, List.getElem_toArray, List.getElem_cons_succ, List.getElem_cons_zero, List.getElem?_toArray, List.getElem?_cons_succ, List.getElem?_cons_zero, List.setIfInBounds_toArray, List.set_cons_zero, List.set_cons_succ]
      refine wpAnyH_take (i := 10) (v := .bool true) rfl (by kernel_rfl) (by kernel_rfl) (by kernel_rfl) (fun _ _ _ h => h) (Or.inl ⟨by kernel_rfl, fun W hW => ?_⟩) hH ?_
      · go_simp
      try simp only [Act.put, List.getElem_toArray, List.getElem_cons_succ, List.getElem_cons_zero, List.getElem?_toArray, List.getElem?_cons_succ, List.getElem?_cons_zero, List.setIfInBounds_toArray, List.set_cons_zero, List.set_cons_succ]
      refine wpAnyH_done (by kernel_rfl) ?_ _
      try simp only [Act.put, List.getElem_toArray, List.getElem_cons_succ, List.getElem_cons_zero, List.getElem?_toArray, List.getElem?_cons_succ, List.getElem?_cons_zero, List.setIfInBounds_toArray, List.set_cons_zero, List.set_cons_succ]
      go_wp2
      go_ret
      exact ⟨rfl, HH3.out⟩
end Go.Proofs.Ytfeoamkngnpcmaa
