import Derived.Test.YtigapdfefapdgaaTracePl
import Derived.Test.YtigapdfefapdgaaChecked
namespace Go.Proofs.Ytigapdfefapdgaa
set_option linter.unusedSimpArgs false
open Go.ChangeShapes Go.WideShapes Go.ChangeAt Go.RowKit Go.Pin
set_option maxRecDepth 100000 in
set_option maxHeartbeats 4000000 in
theorem plays_walk (vl : Value) (l : List (Int × Int × Bool)) (w : World) (ha : Sl w vl 3 (stC l) l.length) :
    Calls Try.prog 3 #[vl] w fun e w' => e = .returned (.bool true) ∧ Below w.heap.size w w' := by
  obtain ⟨i0, hi, hz0, hz1, hz2⟩ := info_parts info37
  have HI : Hid _ := And.intro hi (And.intro hz0 (And.intro hz1 hz2))
  clear hi hz0 hz1 hz2
  obtain ⟨a, c, rfl⟩ := sl_len ha
  have HA : Hid (Sl w (.slice a l.length c) 3 (stC l) l.length) := ha
  clear ha
  generalize hn : l.length = n at *
  have HL : Hid _ := hn
  clear hn
  go_enter Try.func3, Try.ntmps3
  go_wp2_with (go_at_call 9; refine (new_any _).mono ?_; rintro e w' ⟨rfl, rfl⟩)
  go_loopw [5, 6] (fun vw iv wr => ∃ (i : Nat) (vs1 vs2 : Value), i ≤ n ∧ i ≤ 2000 ∧ iv = .int .i64 i ∧ Play w.heap.size w wr w.heap.size vs1 (lg (l.take i)) (w.heap.size + 1) vs2 (lg (l.take i)) vw (lg (l.take i))) (fun _ iv _ => 2000 - (intOf iv).toNat)
  case atStart => exact ⟨0, _, _, by omega, by omega, rfl, play_new w⟩
  case round =>
    obtain ⟨vw, hvw⟩ : ∃ vw, vw = u5 := ⟨_, rfl⟩
    subst hvw
    obtain ⟨i, vs1, vs2, hin, hi2, rfl, hP⟩ := hrel
    by_cases hlt : i < n ∧ i < 2000
    · obtain ⟨hlt, hl2⟩ := hlt
      obtain ⟨ba, oa, xk, xv, xb, rfl, e1, d1, d2, d3⟩ := step_at HA.out HL.out hP.1.2.2.2.1 hlt
      have hst := lg_succ l i _ e1
      have hbd := lg_bd l hi2
      have HST : Hid _ := hst
      have HP : Hid (Play w.heap.size w wr w.heap.size vs1 (lg (l.take i)) (w.heap.size + 1) vs2 (lg (l.take i)) vw (lg (l.take i))) := hP
      clear hst e1 hP HA
      generalize lg (l.take i) = acc at *
      cases ho : evt xk xv xb with
      | none =>
        have HEC : Hid (∀ w, Calls Try.prog 11 #[.agg #[.int .i64 xk, .int .i64 xv, .bool xb]] w fun e w' => e = .returned (.tuple #[.agg #[.int .i64 0, .int .i64 0], .bool false]) ∧ Below w.heap.size w w') := by
          have := event_any xk xv xb
          rw [ho] at this
          exact this
        have hst : lg (l.take (i + 1)) = acc := by rw [HST.out, ho]; simp
        clear HST
        have HST : Hid _ := hst
        have HEV : Hid _ := ho
        clear ho hst
        have hb0 : Below wr.heap.size wr (wr.alloc (.cells #[.int .i64 xk, .int .i64 xv, .bool xb] 34)) := (Below.refl _ _).alloc (Nat.le_refl _) _
        have hx := bx_new wr xk xv xb
        obtain ⟨w0, hw0⟩ : ∃ w0, wr.alloc (.cells #[.int .i64 xk, .int .i64 xv, .bool xb] 34) = w0 := ⟨_, rfl⟩
        rw [hw0] at hb0 hx
        obtain ⟨bx, hbx⟩ : ∃ bx, wr.heap.size = bx := ⟨_, rfl⟩
        rw [hbx] at hx
        have q0 := hx.c0
        have q1 := hx.c1
        have q2 := hx.c2
        have HX0 : Hid (Bx w0 bx xk xv xb) := hx
        have HP0 : Hid (Play w.heap.size w w0 w.heap.size vs1 acc (w.heap.size + 1) vs2 acc vw acc) := HP.out.below hb0
        clear hb0 HP hx
        go_wp2_with (first
          | (go_at_call 10
             refine (llog_any w.heap.size w.heap.size vs1 acc xk xv xb w0 HP0.out.1.1 (by omega)).mono ?_
             rintro e w1 ⟨rfl, hL⟩
             rw [HEV.out] at hL
             have hx := HX0.out.log HP0.out.1.1 hL
             have q0 := hx.c0
             have q1 := hx.c1
             have q2 := hx.c2
             have HX1 : Hid (Bx w1 bx xk xv xb) := hx
             obtain ⟨vs1', P1⟩ := HP0.out.left hL
             have PP1 := P1
             simp only [Option.toList_none, List.append_nil] at PP1
             have HP1 : Hid (Play w.heap.size w w1 w.heap.size vs1' acc (w.heap.size + 1) vs2 acc vw acc) := PP1
             clear hL P1 hx HX0 HP0 PP1)
          | (go_at_call 10
             refine (llog_any w.heap.size (w.heap.size + 1) vs2 acc xk xv xb w1 HP1.out.1.2.1 (by omega)).mono ?_
             rintro e w2 ⟨rfl, hL⟩
             rw [HEV.out] at hL
             have hx := HX1.out.log HP1.out.1.2.1 hL
             have q0 := hx.c0
             have q1 := hx.c1
             have q2 := hx.c2
             have HX2 : Hid (Bx w2 bx xk xv xb) := hx
             obtain ⟨vs2', P2⟩ := HP1.out.right hL
             have PP2 := P2
             simp only [Option.toList_none, List.append_nil] at PP2
             have HP2 : Hid (Play w.heap.size w w2 w.heap.size vs1' acc (w.heap.size + 1) vs2' acc vw acc) := PP2
             clear hL P2 hx HX1 HP1 PP2)
          | (go_at_call 11
             refine (HEC.out _).mono ?_
             rintro e w3 ⟨rfl, B3⟩
             have B34 : Below w2.heap.size w2 (w3.alloc (.cells #[.int .i64 0, .int .i64 0] 37)) := B3.alloc B3.size _
             have hx3 := HX2.out.below B3
             have hx := HX2.out.below B34
             have q0 := hx3.c0
             have q1 := hx3.c1
             have q2 := hx3.c2
             have r0 := hx.c0
             have r1 := hx.c1
             have r2 := hx.c2
             have HX4 : Hid (Bx (w3.alloc (.cells #[.int .i64 0, .int .i64 0] 37)) bx xk xv xb) := hx
             have HP4 : Hid (Play w.heap.size w (w3.alloc (.cells #[.int .i64 0, .int .i64 0] 37)) w.heap.size vs1' acc (w.heap.size + 1) vs2' acc vw acc) := HP2.out.below B34
             clear HP2 B3 B34 hx hx3 HX2)
          | (go_at_call 12
             refine (asks_any _ vs1' vw acc xk xv xb _ HP4.out.1.1.opt (sl_of_owns HP4.out.2.1) (by omega)).mono ?_
             rintro e w6 ⟨rfl, B6⟩
             have hx := HX4.out.below B6
             have q0 := hx.c0
             have q1 := hx.c1
             have q2 := hx.c2
             have HP6 : Hid (Play w.heap.size w w6 w.heap.size vs1' acc (w.heap.size + 1) vs2' acc vw acc) := HP4.out.below B6
             clear HP4 B6 HX4 hx)
          | (go_at_call 12
             refine (asks_any _ vs2' vw acc xk xv xb w6 HP6.out.1.2.1.opt (sl_of_owns HP6.out.2.1) (by omega)).mono ?_
             rintro e w7 ⟨rfl, B7⟩
             have HP7 : Hid (Play w.heap.size w w7 w.heap.size vs1' acc (w.heap.size + 1) vs2' acc vw acc) := HP6.out.below B7
             clear HP6 B7))
        go_roundw
        case rel => exact ⟨i + 1, vs1', vs2', by omega, by omega, by go_num, by rw [HST.out]; exact HP7.out⟩
        case measure => simp [intOf]; omega
      | some y =>
        obtain ⟨y1, y2⟩ := y
        have HEC : Hid (∀ w, Calls Try.prog 11 #[.agg #[.int .i64 xk, .int .i64 xv, .bool xb]] w fun e w' => e = .returned (.tuple #[.agg #[.int .i64 y1, .int .i64 y2], .bool true]) ∧ Below w.heap.size w w') := by
          have := event_any xk xv xb
          rw [ho] at this
          exact this
        have hst : lg (l.take (i + 1)) = acc ++ [(y1, y2)] := by rw [HST.out, ho]; rfl
        have hbd2 := lg_bd l (show i + 1 ≤ 2000 by omega)
        rw [hst, List.length_append] at hbd2
        simp only [List.length_cons, List.length_nil] at hbd2
        clear HST
        have HST : Hid _ := hst
        have HEV : Hid _ := ho
        clear ho hst
        have hb0 : Below wr.heap.size wr (wr.alloc (.cells #[.int .i64 xk, .int .i64 xv, .bool xb] 34)) := (Below.refl _ _).alloc (Nat.le_refl _) _
        have hx := bx_new wr xk xv xb
        obtain ⟨w0, hw0⟩ : ∃ w0, wr.alloc (.cells #[.int .i64 xk, .int .i64 xv, .bool xb] 34) = w0 := ⟨_, rfl⟩
        rw [hw0] at hb0 hx
        obtain ⟨bx, hbx⟩ : ∃ bx, wr.heap.size = bx := ⟨_, rfl⟩
        rw [hbx] at hx
        have q0 := hx.c0
        have q1 := hx.c1
        have q2 := hx.c2
        have HX0 : Hid (Bx w0 bx xk xv xb) := hx
        have HP0 : Hid (Play w.heap.size w w0 w.heap.size vs1 acc (w.heap.size + 1) vs2 acc vw acc) := HP.out.below hb0
        clear hb0 HP hx
        go_wp2_with (first
          | (go_at_call 10
             refine (llog_any w.heap.size w.heap.size vs1 acc xk xv xb w0 HP0.out.1.1 (by omega)).mono ?_
             rintro e w1 ⟨rfl, hL⟩
             rw [HEV.out] at hL
             have hx := HX0.out.log HP0.out.1.1 hL
             have q0 := hx.c0
             have q1 := hx.c1
             have q2 := hx.c2
             have HX1 : Hid (Bx w1 bx xk xv xb) := hx
             obtain ⟨vs1', P1⟩ := HP0.out.left hL
             have HP1 : Hid (Play w.heap.size w w1 w.heap.size vs1' (acc ++ [(y1, y2)]) (w.heap.size + 1) vs2 acc vw acc) := P1
             clear hL P1 hx HX0 HP0)
          | (go_at_call 10
             refine (llog_any w.heap.size (w.heap.size + 1) vs2 acc xk xv xb w1 HP1.out.1.2.1 (by omega)).mono ?_
             rintro e w2 ⟨rfl, hL⟩
             rw [HEV.out] at hL
             have hx := HX1.out.log HP1.out.1.2.1 hL
             have q0 := hx.c0
             have q1 := hx.c1
             have q2 := hx.c2
             have HX2 : Hid (Bx w2 bx xk xv xb) := hx
             obtain ⟨vs2', P2⟩ := HP1.out.right hL
             have HP2 : Hid (Play w.heap.size w w2 w.heap.size vs1' (acc ++ [(y1, y2)]) (w.heap.size + 1) vs2' (acc ++ [(y1, y2)]) vw acc) := P2
             clear hL P2 hx HX1 HP1)
          | (go_at_call 11
             refine (HEC.out _).mono ?_
             rintro e w3 ⟨rfl, B3⟩
             have B34 : Below w2.heap.size w2 (w3.alloc (.cells #[.int .i64 y1, .int .i64 y2] 37)) := B3.alloc B3.size _
             obtain ⟨w4, hw4⟩ : ∃ w4, w3.alloc (.cells #[.int .i64 y1, .int .i64 y2] 37) = w4 := ⟨_, rfl⟩
             have y0 : w4.cell? ⟨w3.heap.size, 0, none⟩ = some (.int .i64 y1) := by rw [← hw4]; simp
             have y1' : w4.cell? ⟨w3.heap.size, 1, none⟩ = some (.int .i64 y2) := by rw [← hw4]; simp
             rw [hw4] at B34
             have hx := HX2.out.below B34
             have q0 := hx.c0
             have q1 := hx.c1
             have q2 := hx.c2
             have HX4 : Hid (Bx w4 bx xk xv xb) := hx
             have HP4 : Hid (Play w.heap.size w w4 w.heap.size vs1' (acc ++ [(y1, y2)]) (w.heap.size + 1) vs2' (acc ++ [(y1, y2)]) vw acc) := HP2.out.below B34
             clear HP2 B3 B34 hx HX2)
          | (at_builtin
             refine wpList_append_own_at _ rfl _ _ 25 rfl w.heap.size 37 i0 (.agg #[.int .i64 0, .int .i64 0]) 2 16 Try.underlying25 HI.out.1 HI.out.2.1 HI.out.2.2.1 HI.out.2.2.2 rfl (by decide) _ acc.length (evC acc) rfl (HP4.out.2.1.alloc _) ⟨w4.heap.size, 0, none⟩ 1 1 [.int .i64 y1, .int .i64 y2] rfl rfl (two_new_cells _ _ _ _) (by intro u hu; simp at hu; rcases hu with rfl | rfl <;> rfl) (by unfold maxLen; omega) (by omega) (by have := HP4.out.1.2.2.2.2; simp; omega) ?_
             intro vw' w5 hown hgrow _ hat
             have b45 : Below w4.heap.size w4 (w4.alloc (.cells #[.int .i64 y1, .int .i64 y2] 37)) := (Below.refl _ w4).alloc (Nat.le_refl _) _
             have P5 := (HP4.out.below b45).append (lw' := acc ++ [(y1, y2)]) (by rw [List.length_append, evC_app]; exact hown) hgrow hat
             have hx := (HX4.out.below b45).grown (HP4.out.below b45).2.1 hgrow
             have q0 := hx.c0
             have q1 := hx.c1
             have q2 := hx.c2
             have HP5 : Hid (Play w.heap.size w w5 w.heap.size vs1' (acc ++ [(y1, y2)]) (w.heap.size + 1) vs2' (acc ++ [(y1, y2)]) vw' (acc ++ [(y1, y2)])) := P5
             have HX5 : Hid (Bx w5 bx xk xv xb) := hx
             clear hown hgrow hat b45 P5 hx HX4 HP4)
          | (go_at_call 12
             refine (asks_any _ vs1' vw' (acc ++ [(y1, y2)]) xk xv xb w5 HP5.out.1.1.opt (sl_of_owns HP5.out.2.1) (by rw [List.length_append]; simp; omega)).mono ?_
             rintro e w6 ⟨rfl, B6⟩
             have hx := HX5.out.below B6
             have q0 := hx.c0
             have q1 := hx.c1
             have q2 := hx.c2
             have HP6 : Hid (Play w.heap.size w w6 w.heap.size vs1' (acc ++ [(y1, y2)]) (w.heap.size + 1) vs2' (acc ++ [(y1, y2)]) vw' (acc ++ [(y1, y2)])) := HP5.out.below B6
             clear HP5 B6 HX5 hx)
          | (go_at_call 12
             refine (asks_any _ vs2' vw' (acc ++ [(y1, y2)]) xk xv xb w6 HP6.out.1.2.1.opt (sl_of_owns HP6.out.2.1) (by rw [List.length_append]; simp; omega)).mono ?_
             rintro e w7 ⟨rfl, B7⟩
             have HP7 : Hid (Play w.heap.size w w7 w.heap.size vs1' (acc ++ [(y1, y2)]) (w.heap.size + 1) vs2' (acc ++ [(y1, y2)]) vw' (acc ++ [(y1, y2)])) := HP6.out.below B7
             clear HP6 B7))
        go_roundw
        case rel => exact ⟨i + 1, vs1', vs2', by omega, by omega, by go_num, by rw [HST.out]; exact HP7.out⟩
        case measure => simp [intOf]; omega
    · have hfin : l.take i = l.take 2000 := take_2000 (by rw [HL.out]; omega)
      have lA : (lg (l.take 2000)).length ≤ 2000 := lg_bd l (Nat.le_refl _)
      rw [hfin] at hP
      have HP : Hid (Play w.heap.size w wr w.heap.size vs1 (lg (l.take 2000)) (w.heap.size + 1) vs2 (lg (l.take 2000)) vw (lg (l.take 2000))) := hP
      clear hP hfin HA
      generalize lg (l.take 2000) = A at *
      by_cases h2 : i < n
      · have h3 : i = 2000 := by omega
        subst h3
        go_wp2
        go_loopw [12] (fun kv wq => ∃ k : Nat, 4 ≤ k ∧ k ≤ 8 ∧ kv = .int .i64 k ∧ Play w.heap.size w wq w.heap.size vs1 A (w.heap.size + 1) vs2 A vw A) (fun kv _ => 8 - (intOf kv).toNat)
        case atStart => exact ⟨4, by omega, by omega, rfl, HP.out⟩
        case round =>
          clear HP
          obtain ⟨k, hk4, hk8, rfl, hP⟩ := hrel
          have HP : Hid (Play w.heap.size w wr w.heap.size vs1 A (w.heap.size + 1) vs2 A vw A) := hP
          clear hP
          by_cases hk : k < 8
          · have hk' : (k : Int) ≤ 7 := by omega
            go_wp2_with (first
              | (go_at_call 12
                 refine (asks_any _ vs1 vw A k 0 false _ HP.out.1.1.opt (sl_of_owns HP.out.2.1) lA).mono ?_
                 rintro e w6 ⟨rfl, B6⟩
                 have HP6 : Hid (Play w.heap.size w w6 w.heap.size vs1 A (w.heap.size + 1) vs2 A vw A) := HP.out.below B6
                 clear HP B6)
              | (go_at_call 12
                 refine (asks_any _ vs2 vw A k 0 false _ HP6.out.1.2.1.opt (sl_of_owns HP6.out.2.1) lA).mono ?_
                 rintro e w7 ⟨rfl, B7⟩
                 have HP7 : Hid (Play w.heap.size w w7 w.heap.size vs1 A (w.heap.size + 1) vs2 A vw A) := HP6.out.below B7
                 clear HP6 B7))
            go_roundw
            case rel => exact ⟨k + 1, by omega, by omega, by go_num, HP7.out⟩
            case measure => simp [intOf]; omega
          · have hk' : ¬ (k : Int) ≤ 7 := by omega
            go_wp2_with (first
              | (go_at_call 13
                 refine (known_any _).mono ?_
                 rintro e w7 ⟨rfl, B7⟩))
            go_ret
            exact ⟨rfl, HP.out.1.2.2.2.1.trans (B7.mono HP.out.1.2.2.2.2)⟩
      · have h3 : ¬ (i : Int) < (n : Int) := by omega
        clear hlt
        go_wp2
        go_loopw [12] (fun kv wq => ∃ k : Nat, 4 ≤ k ∧ k ≤ 8 ∧ kv = .int .i64 k ∧ Play w.heap.size w wq w.heap.size vs1 A (w.heap.size + 1) vs2 A vw A) (fun kv _ => 8 - (intOf kv).toNat)
        case atStart => exact ⟨4, by omega, by omega, rfl, HP.out⟩
        case round =>
          clear HP
          obtain ⟨k, hk4, hk8, rfl, hP⟩ := hrel
          have HP : Hid (Play w.heap.size w wr w.heap.size vs1 A (w.heap.size + 1) vs2 A vw A) := hP
          clear hP
          by_cases hk : k < 8
          · have hk' : (k : Int) ≤ 7 := by omega
            go_wp2_with (first
              | (go_at_call 12
                 refine (asks_any _ vs1 vw A k 0 false _ HP.out.1.1.opt (sl_of_owns HP.out.2.1) lA).mono ?_
                 rintro e w6 ⟨rfl, B6⟩
                 have HP6 : Hid (Play w.heap.size w w6 w.heap.size vs1 A (w.heap.size + 1) vs2 A vw A) := HP.out.below B6
                 clear HP B6)
              | (go_at_call 12
                 refine (asks_any _ vs2 vw A k 0 false _ HP6.out.1.2.1.opt (sl_of_owns HP6.out.2.1) lA).mono ?_
                 rintro e w7 ⟨rfl, B7⟩
                 have HP7 : Hid (Play w.heap.size w w7 w.heap.size vs1 A (w.heap.size + 1) vs2 A vw A) := HP6.out.below B7
                 clear HP6 B7))
            go_roundw
            case rel => exact ⟨k + 1, by omega, by omega, by go_num, HP7.out⟩
            case measure => simp [intOf]; omega
          · have hk' : ¬ (k : Int) ≤ 7 := by omega
            go_wp2_with (first
              | (go_at_call 13
                 refine (known_any _).mono ?_
                 rintro e w7 ⟨rfl, B7⟩))
            go_ret
            exact ⟨rfl, HP.out.1.2.2.2.1.trans (B7.mono HP.out.1.2.2.2.2)⟩

set_option maxRecDepth 100000 in
theorem plays_lifted (os : Os) (started : os.Started) (H : Type) (enc : TypeId × Value → H) :
    ReturnsInHanded {} Try.checked os 3 .any (Rows.tracePlaysSpec.pre6 enc Try.prog Try.f3 Rows.tracePlaysRow.domain false) (Rows.tracePlaysSpec.post enc Try.prog Try.f3 false true false false) := by
  refine returnsInHanded_of_change_sized (C := Try.checked) own started (by kernel_rfl) Try.func3
    (ChangeSpec.witness6 (enc := enc) (C := Try.checked) false ⟨#[], #[.slice none 0 0], []⟩ 8 (by kernel_rfl) (by kernel_rfl) (by kernel_rfl) (by kernel_rfl)) ?_
  intro W base args ds gs before hval0 hW hcnd hsz0 _
  clear hsz0
  have hval : ∀ (j : Nat) t v, Try.f3.params[j]? = some t → args[j]? = some v → Value.okWide Try.prog W .any base t v := hval0
  have hW' := hW
  obtain ⟨p, q, hA0, hV, rfl, hfz, hnd⟩ := hW
  have hA : DataW.TrodAll enc Try.prog W 0 (fun _ => true) true Try.f3.params.toList args.toList ds p := hA0
  rw [Try.params3] at hA hval
  have hAll := fun W' (hb : Below W.heap.size W W') => trodAll_below laidOut hb _ _ _ _ (by kernel_rfl) hA
  obtain ⟨v0, vs0, d0, ds0, p0, q0, hargs, rfl, rfl, h0, r0⟩ := trodAll_cons hA
  obtain ⟨rfl, rfl, rfl⟩ := trodAll_nil r0
  obtain rfl : args = #[v0] := by cases args; simp_all
  obtain ⟨rfl, rfl⟩ := trodVars_none hV
  obtain ⟨a0, len0, cap0, rfl⟩ := okWide_slice Try.underlying22 (hval 0 22 v0 rfl rfl)
  obtain ⟨z0, rfl, w0⟩ := open_script h0
  clear hA0 hval0
  refine (plays_walk _ z0 W w0).mono fun e W' ⟨he, bel⟩ => ?_
  subst he
  exact ⟨_, rfl, _, _, _, [], _, [], hW', trodAll_mk1 (shut_bool Try.underlying4 _), hAll W' bel, rfl, bel.frame _, fun h => by cases h⟩

theorem plays_proved : Rows.TracePlaysSaid :=
  OpenClaim.holds_of_wide 3 Try.f3 rfl rfl rfl rfl rfl rfl rfl ⟨rfl, rfl, rfl, rfl, rfl⟩ rfl rfl rfl rfl rfl (by kernel_rfl) Try.func3 (by kernel_rfl)
    (of_decide_eq_true (by kernel_rfl)) (by unfold Func.isWrapper; first | (rw [if_pos (by decide +kernel)]; kernel_rfl) | (rw [if_neg (by decide +kernel)]; exact ⟨rfl, rfl⟩))
    (fun os started H enc _ => plays_lifted os started H enc)
end Go.Proofs.Ytigapdfefapdgaa
