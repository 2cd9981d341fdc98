import Derived.Test.YtfeoamkngnpcmaaPrkW
namespace Go.Proofs.Ytfeoamkngnpcmaa
set_option linter.unusedSimpArgs false
open Go.ChangeShapes Go.WideShapes Go.ChangeAt Go.RowKit Go.Pin Go.Prm
set_option maxRecDepth 100000 in
set_option maxHeartbeats 8000000 in
theorem grows_walk (x y : List Int) (hx : Key17 x) (hy : Key17 y) (t : Int) (s : Bool) (w : World) :
    Calls Try.prog 4 #[.agg (VI .u8 x), .agg (VI .u8 y), .int .i64 t, .bool s] w fun e w' => e = .returned (.bool true) ∧ Below w.heap.size w w' := by
  have X0 : Hid (Bx w [(w.heap.size + 1, .cells (VI .u8 y) 39), (w.heap.size, .cells (VI .u8 x) 39)] ((w.alloc (.cells (VI .u8 x) 39)).alloc (.cells (VI .u8 y) 39))) := bx2 w _ _
  obtain ⟨n, hn⟩ : ∃ n, w.heap.size = n := ⟨_, rfl⟩
  obtain ⟨W0, hW0⟩ : ∃ W, (w.alloc (.cells (VI .u8 x) 39)).alloc (.cells (VI .u8 y) 39) = W := ⟨_, rfl⟩
  rw [hW0, hn] at X0
  have hzb := zero_bench
  have hzs := benchZ_size
  have hzt := benchZ_set
  have hz4 := zero_step
  have HX : Hid (Key17 x) := hx
  have HY : Hid (Key17 y) := hy
  clear hx hy
  go_enter Try.func4, Try.ntmps4
  go_wp2_with (fail)
  refine (new_any _).mono ?_
  rintro e w1 ⟨rfl, hw1⟩
  have hs1 := st_new W0 W0.heap.size (Nat.le_refl _)
  have hbe : Below W0.heap.size W0 ((W0.alloc (.cells #[.slice none 0 0, .int .i64 0] 57)).alloc (.cells (benchL (.pointer (some ⟨W0.heap.size, 0, none⟩))).toArray 36)) := ((Below.refl _ _).alloc (Nat.le_refl _) _).alloc (by simp) _
  rw [← hw1] at hs1 hbe
  have hsz1 : w1.heap.size = W0.heap.size + 1 := by rw [hw1]; simp
  obtain ⟨R, hR⟩ : ∃ R, W0.heap.size = R := ⟨_, rfl⟩
  rw [hR] at hs1 hbe hsz1
  simp only [hR]
  obtain ⟨W2, hW2⟩ : ∃ W, w1.alloc (.cells (benchL (.pointer (some ⟨R, 0, none⟩))).toArray 36) = W := ⟨_, rfl⟩
  rw [hW2] at hs1 hbe
  have H2 : Hid (Bw R (R + 1) (.pointer (some ⟨R, 0, none⟩)) (fun _ => 0) [] W0 W2) := ⟨_, _, _, hs1, num_zeros, hbe⟩
  have HRN : Hid (Below n w W0 ∧ n + 2 ≤ R ∧ ∀ W, Below R W0 W → rowB W n x 39 ∧ rowB W (n + 1) y 39) := by
    have h1 := X0.out.lt (g := n + 1) (x := .cells (VI .u8 y) 39) (by simp)
    rw [hR] at h1
    refine ⟨hn ▸ X0.out.old, by omega, fun W hW => ⟨(hW.block n (by omega)).trans (X0.out.row (by simp)), (hW.block (n + 1) (by omega)).trans (X0.out.row (by simp))⟩⟩
  clear hs1 hbe hw1 X0 hW0
  have bel : ∀ {ns : Nat → Nat} {l : List (Int × Int)} {W : World}, Bw R (R + 1) (.pointer (some ⟨R, 0, none⟩)) ns l W0 W → Below R W0 W := fun h => by obtain ⟨_, _, _, _, _, h⟩ := h; exact h
  have BEL : Hid (∀ {ns : Nat → Nat} {l : List (Int × Int)} {W : World}, Bw R (R + 1) (.pointer (some ⟨R, 0, none⟩)) ns l W0 W → Below R W0 W) := bel
  clear bel
  have HRX : Hid (rowB W2 n x 39) := (HRN.out.2.2 W2 (BEL.out H2.out)).1
  have hss := sizeO
  have hne := neO
  have hfx := foldB HX.out.len
  have hfy := foldB HY.out.len
  have hsx := sizeB HX.out.len
  have hsy := sizeB HY.out.len
  have hlx := HX.out.len
  have hly := HY.out.len
  go_wp2_with (with_reducible refine at_list ?_; refine wpList_load_row rfl 39 (.tmp 4) rfl n rfl 39 (VI .u8 x) (0, 0) _ HRX.out Try.underlying39 rfl HX.out.info ?_)
  rw [stepB x 0]
  refine (bw_step H2.out 2 0 0 0 z16_key HX.out (by simp)).mono ?_
  rintro e W3 ⟨rfl, h3⟩
  have H3 : Hid (∃ ns l, l.length ≤ 1 ∧ Bw R (R + 1) (.pointer (some ⟨R, 0, none⟩)) ns l W0 W3) := ⟨_, _, lgx_len [] 2, h3⟩
  clear h3 H2 HRX hW2 hsz1
  obtain ⟨ns3, l3, hl3, h3⟩ := H3.out
  have HRY : Hid (rowB W3 (n + 1) y 39) := (HRN.out.2.2 W3 (BEL.out h3)).2
  have H3' : Hid (Bw R (R + 1) (.pointer (some ⟨R, 0, none⟩)) ns3 l3 W0 W3) := h3
  clear h3 H3
  go_wp2_with (with_reducible refine at_list ?_; refine wpList_load_row rfl 39 (.tmp 5) rfl (n + 1) rfl 39 (VI .u8 y) (0, 0) _ HRY.out Try.underlying39 rfl HY.out.info ?_)
  rw [stepB y 1]
  refine (bw_step H3'.out 2 0 0 1 z16_key HY.out (by omega)).mono ?_
  rintro e W4 ⟨rfl, h4⟩
  have H4 : Hid (∃ ns l, l.length ≤ 2 ∧ Bw R (R + 1) (.pointer (some ⟨R, 0, none⟩)) ns l W0 W4) := ⟨_, _, by have := lgx_len l3 2; omega, h4⟩
  clear h4 H3' HRY hl3
  have TAIL : Hid (∀ W m, m ≤ 600 → (∃ ns l, l.length ≤ m ∧ Bw R (R + 1) (.pointer (some ⟨R, 0, none⟩)) ns l W0 W) → ∀ kd a b c, Calls Try.prog 10 #[.pointer (some ⟨R + 1, 0, none⟩), .agg (stepC kd a b c (List.replicate 16 0) (List.replicate 17 0))] W fun e w' => e = .returned (.bool true) ∧ ∃ ns l, l.length ≤ m + 1 ∧ Bw R (R + 1) (.pointer (some ⟨R, 0, none⟩)) ns l W0 w') := fun W m hm hW kd a b c => by
    obtain ⟨ns, l, hl, h⟩ := hW
    refine (bw_step h kd a b c z16_key z17_key (by omega)).mono ?_
    rintro e w' ⟨he, h'⟩
    exact ⟨he, _, _, by have := lgx_len l kd; omega, h'⟩
  clear hfx hfy hsx hsy hlx hly
  obtain ⟨ot, hot⟩ : ∃ ot : Int, ot = (if s then 0 else 1) := ⟨_, rfl⟩
  cases s
  all_goals (
    simp only [Bool.false_eq_true, if_true, if_false, reduceIte] at hot
    subst hot
    go_wp2_with (fail)
    go_loopw [11] (fun i w' => ∃ k : Nat, k ≤ 500 ∧ i = .int .i64 k ∧ ∃ ns l, l.length ≤ 2 + k ∧ Bw R (R + 1) (.pointer (some ⟨R, 0, none⟩)) ns l W0 w') (fun i _ => 500 - (intOf i).toNat)
    case atStart =>
      obtain ⟨ns, l, h1, h2⟩ := H4.out
      exact ⟨0, by omega, rfl, ns, l, by omega, h2⟩
    case round =>
      clear H4
      obtain ⟨k, hk, rfl, hB⟩ := hrel
      have HB : Hid (∃ ns l, l.length ≤ 2 + k ∧ Bw R (R + 1) (.pointer (some ⟨R, 0, none⟩)) ns l W0 wr) := hB
      clear hB
      by_cases hgo : (k : Int) < t ∧ k < 500
      · obtain ⟨g1, g2⟩ := hgo
        have g2' : (k : Int) < 500 := by omega
        go_wp2_with (fail)
        rw [stepO]
        refine (TAIL.out wr (2 + k) (by omega) HB.out _ _ _ _).mono ?_
        rintro e W5 ⟨rfl, h5⟩
        have H5 : Hid (∃ ns l, l.length ≤ 2 + k + 1 ∧ Bw R (R + 1) (.pointer (some ⟨R, 0, none⟩)) ns l W0 W5) := h5
        clear h5 HB
        go_wp2_with (fail)
        go_roundw
        case rel => exact ⟨k + 1, by omega, by go_num, H5.out⟩
        case measure => simp [intOf]; omega
      · have hex : decide ((k : Int) < t) = false ∨ (decide ((k : Int) < t) = true ∧ ¬ (k : Int) < 500) := by
          by_cases g1 : (k : Int) < t
          · exact .inr ⟨decide_eq_true g1, fun g2 => hgo ⟨g1, by omega⟩⟩
          · exact .inl (decide_eq_false g1)
        have HB6 : Hid (∃ ns l, l.length ≤ 502 ∧ Bw R (R + 1) (.pointer (some ⟨R, 0, none⟩)) ns l W0 wr) := by
          obtain ⟨ns, l, h1, h2⟩ := HB.out
          exact ⟨ns, l, by omega, h2⟩
        clear hgo HB
        rcases hex with g1 | ⟨g1, g2⟩
        all_goals (
          go_wp2_with (fail)
          rw [stepO]
          refine (TAIL.out wr 502 (by omega) HB6.out _ _ _ _).mono ?_
          rintro e W5 ⟨rfl, h5⟩
          have H5 : Hid (∃ ns l, l.length ≤ 503 ∧ Bw R (R + 1) (.pointer (some ⟨R, 0, none⟩)) ns l W0 W5) := h5
          clear h5 HB6
          go_wp2_with (fail)
          rw [stepO]
          refine (TAIL.out W5 503 (by omega) H5.out _ _ _ _).mono ?_
          rintro e W6 ⟨rfl, h6⟩
          have H6 : Hid (∃ ns l, l.length ≤ 504 ∧ Bw R (R + 1) (.pointer (some ⟨R, 0, none⟩)) ns l W0 W6) := h6
          clear h6 H5
          go_wp2_with (fail)
          rw [stepO]
          refine (TAIL.out W6 504 (by omega) H6.out _ _ _ _).mono ?_
          rintro e W7 ⟨rfl, h7⟩
          have H7 : Hid (∃ ns l, l.length ≤ 505 ∧ Bw R (R + 1) (.pointer (some ⟨R, 0, none⟩)) ns l W0 W7) := h7
          clear h7 H6
          go_wp2_with (fail)
          obtain ⟨ns7, l7, hl7, hb7⟩ := H7.out
          refine (bw_ends hb7 (by omega)).mono ?_
          rintro e W8 ⟨rfl, h8⟩
          have H8 : Hid (Below R W0 W8) := h8
          clear h8 hb7 hl7
          go_wp2_with (fail)
          refine (known_f.out _).mono ?_
          rintro e W9 ⟨rfl, h9⟩
          have H9 : Hid (Below W8.heap.size W8 W9) := h9
          clear h9
          go_wp2
          go_ret
          refine ⟨rfl, hn ▸ HRN.out.1.trans (Below.mono (H8.out.trans (H9.out.mono ?_)) ?_)⟩
          · have := H8.out.size; omega
          · have := HRN.out.2.1; omega))
end Go.Proofs.Ytfeoamkngnpcmaa
