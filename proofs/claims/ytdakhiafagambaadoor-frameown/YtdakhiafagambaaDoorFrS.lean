import Derived.Test.YtdakhiafagambaaDoorFrR
import Derived.Test.YtdakhiafagambaaDoorFrD
/- stage 20: the program's Reader: cut, Next -/
namespace Go.Proofs.YtdakhiafagambaaDoor
set_option linter.unusedSimpArgs false
set_option linter.unusedVariables false
open Go.ChangeShapes Go.WideShapes Go.ChangeAt Go.RowKit Go.Pin
theorem Rp.setT {g : Nat} {v : Value} {t : Nat} {X : List Int} {w : World} (h : Rp g v t X w) (t' : Nat) : Rp g v t' X (w.setCell ⟨g, 1, none⟩ (.int .i64 (t' : Int))) := by
  refine ⟨?_, own_keep h.own (fun k hk => heap_setCell_other _ _ _ _ (h.ne hk))⟩
  rw [heap_setCell_same w _ _ _ _ _ h.row]; rfl
theorem chg_cell (w : World) (g i : Nat) (v : Value) (F : List Nat) (hg : g ∈ F) : Chg F w (w.setCell ⟨g, i, none⟩ v) :=
  ⟨rfl, rfl, rfl, ((Below.refl 0 w).setCell (p := ⟨g, i, none⟩) (Nat.zero_le _) v).size, fun k _ hn => heap_setCell_other _ _ _ _ (fun e => hn (e ▸ hg))⟩
theorem Chg.tr {F : List Nat} {w w1 w2 : World} (h : Chg F w w1) (h' : Chg F w1 w2) : Chg F w w2 :=
  ⟨h'.os.trans h.os, h'.tape.trans h.tape, h'.output.trans h.output, Nat.le_trans h.size h'.size, fun k hk hn => (h'.blk k (Nat.lt_of_lt_of_le hk h.size) hn).trans (h.blk k hk hn)⟩
theorem Chg.drewN {F : List Nat} {w w' : World} (h : Chg F w w') (n : Nat) : Chg F w (w'.drewN n) := ⟨h.os, h.tape, h.output, h.size, h.blk⟩
theorem own_row {w : World} {b : Nat} {a : Option Addr} {m cap n : Nat} {xs : List Value} (h : w.ownsRow b 5 1 (.slice a m cap) n xs) (hn : 0 < n) : ∃ B cur, a = some ⟨B, 0, none⟩ ∧ w.heap[B]? = some (.cells cur 5 (0, 0)) ∧ (cap ≤ maxLen ∧ cur.size = cap) ∧ cur.toList.take n = xs := by
  rcases h.2 with ⟨e, e2⟩ | ⟨g, cap', cur, e, hb, hg, h1, h2, h3, h4⟩
  · omega
  · injection e with e1 e2 e3
    subst e1 e3
    exact ⟨g, cur, rfl, hg, ⟨h2, by rw [h3, Nat.mul_one]⟩, by rw [Nat.mul_one] at h4; exact h4⟩
theorem run_preR (w : World) (g n len cap : Nat) (x : Int) (hx : x = (n : Int)) (hn : n ≤ cap) (h0 : 0 < cap) : (Instr.slice 22 (.slice (some ⟨g, 0, none⟩) len cap) none (some (.int .i64 x)) none).run Tryd.prog w = .ok (.slice (some ⟨g, 0, none⟩) n cap) w := by
  subst hx
  have e1 : ¬ cap = 0 := by omega
  have e2 : (⟨g, 0, none⟩ : Addr).add 0 = ⟨g, 0, none⟩ := add_mid g 0 0
  have h2 : ((n : Nat) : Int) ≤ (cap : Int) := by omega
  simp [Instr.slice, run_underlying Tryd.underlying22, Instr.sliceBounds, run_sliceBound, size_u8, sliced, e1, e2, h2, hn]
set_option maxRecDepth 100000 in
set_option maxHeartbeats 8000000 in
theorem cut_any {W : World} {g t k n cap : Nat} {a : Option Addr} {X : List Int} (hr : Rp g (.slice a n cap) t X W) (hX : X.length = n) (hk : t + k ≤ n) (hn : n ≤ 2000000) (hc : n ≤ cap) :
    Calls Tryd.prog 26 #[.pointer (some ⟨g, 0, none⟩), .int .i64 (k : Int)] W fun e w' => e = .returned (.tuple #[]) ∧ Chg (g :: (Value.slice a n cap).ownBlock.toList) W w' ∧ ∃ F', rep g (X.drop (t + k)) F' w' ∧ ∀ k ∈ F', k ∈ g :: (Value.slice a n cap).ownBlock.toList := by
  obtain ⟨F, hF⟩ : ∃ F, g :: (Value.slice a n cap).ownBlock.toList = F := ⟨_, rfl⟩
  rw [hF]
  have HF : Hid (g :: (Value.slice a n cap).ownBlock.toList = F) := hF
  have c1 := hr.c1
  have f1 := hr.fz 1
  obtain ⟨m, hm⟩ : ∃ m, t + k = m := ⟨_, rfl⟩
  have hmi : (t : Int) + (k : Int) = (m : Int) := by omega
  have hr1 := hr.setT m
  have hg1 := chg_cell W g 1 (.int .i64 (m : Int)) F (by rw [← hF]; simp)
  obtain ⟨W1, hW1⟩ : ∃ W1, W.setCell ⟨g, 1, none⟩ (.int .i64 (m : Int)) = W1 := ⟨_, rfl⟩
  rw [hW1] at hr1 hg1
  have CK := kept_any hr1.c0 hr1.c1 (by omega) hc
  rw [hm]
  have HR1 : Hid (Rp g (.slice a n cap) m X W1 ∧ Chg F W W1) := ⟨hr1, hg1⟩
  have HL : Hid (X.length = n ∧ m ≤ n ∧ n ≤ 2000000 ∧ n ≤ cap) := ⟨hX, by omega, hn, hc⟩
  obtain ⟨L, hL⟩ : ∃ L, n - m = L := ⟨_, rfl⟩
  obtain ⟨a2, ha2⟩ : ∃ a2, adv a cap m = a2 := ⟨_, rfl⟩
  obtain ⟨k2, hk2⟩ : ∃ k2, cap - m = k2 := ⟨_, rfl⟩
  rw [hL, ha2, hk2] at CK
  have HL2 : Hid (n - m = L ∧ adv a cap m = a2 ∧ cap - m = k2) := ⟨hL, ha2, hk2⟩
  have hmw : wrap64 (m : Int) = (m : Int) ∧ IntKind.i64.wrap (m : Int) = (m : Int) := ⟨IntWalk.wrap64_in _ ⟨by omega, by omega⟩, IntWalk.i64_in _ ⟨by omega, by omega⟩⟩
  obtain ⟨hmw, hmw2⟩ := hmw
  clear hr hX hk hn hc hF hm hr1 hg1 hL ha2 hk2
  go_enter Tryd.func26, Tryd.ntmps26
  go_upto_region 1 with (fail)
  try simp only [hmi, hmw, hmw2, hW1]
  clear hmi hW1 hmw hmw2 c1 f1
  go_upto_region 2 with (go_at_call 25; refine CK.mono ?_; rintro e w2 ⟨rfl, j, hj⟩; have H2 : Hid (Rp g (.slice a n cap) m X w2 ∧ Chg F W w2) := (by rw [hj]; exact ⟨⟨HR1.out.1.row, HR1.out.1.own⟩, HR1.out.2.drewN _⟩); clear hj CK HR1)
  have c0 := H2.out.1.c0
  have c1 := H2.out.1.c1
  have f0 := H2.out.1.fz 0
  have f1 := H2.out.1.fz 1
  by_cases h0 : L = 0
  · have b1 : (L : Int) = 0 := by omega
    have HL0 : Hid (L = 0) := h0
    clear h0
    go_wp2
    first | go_end0 | refine bodyPost_ret (results_none rfl _ _ _) rfl ?_
    have hrow : ((w2.setCell ⟨g, 0, none⟩ (.slice none 0 0)).setCell ⟨g, 1, none⟩ (.int .i64 0)).heap[g]? = some (.cells #[.slice none 0 0, .int .i64 ((0 : Nat) : Int)] 39) := by
      have h1 := heap_setCell_same w2 g 0 _ _ (.slice none 0 0) H2.out.1.row
      rw [heap_setCell_same _ g 1 _ _ _ h1]
      rfl
    have hd : X.drop m = [] := List.drop_eq_nil_of_le (by have := HL.out; have := HL2.out.1; have := HL0.out; omega)
    have hgF : g ∈ F := by rw [← HF.out]; simp
    rw [hd]
    refine ⟨rfl, (H2.out.2.tr (chg_cell w2 g 0 _ F hgF)).tr (chg_cell _ g 1 _ F hgF), [g], ⟨.slice none 0 0, 0, [], ⟨hrow, own_nil0 _ _ _ _⟩, rfl, rfl, Nat.le_refl _, rfl⟩, fun k hk => by rw [List.mem_singleton.1 hk]; exact hgF⟩
  · have b1 : ¬ (L : Int) = 0 := by omega
    by_cases hle : L ≤ m
    · have b2 : (L : Int) ≤ (m : Int) := by omega
      obtain ⟨hl1, hl2, hl3, hl4⟩ := HL.out
      obtain ⟨hm1, hm2, hm3⟩ := HL2.out
      obtain ⟨B, cur, hB⟩ := own_row H2.out.1.own (by rw [hl1]; omega)
      obtain ⟨rfl, hrow, hcs, htk⟩ := hB
      rw [hl1] at htk
      have hBg := H2.out.1.ne (k := B) rfl
      have ha2 : a2 = some ⟨B, m, none⟩ := by rw [← hm2]; unfold adv; rw [if_neg (by omega)]; simp [add_mid]
      subst ha2
      have hdl : ((X.drop m).map (Value.int .u8)).length = L := by rw [List.length_map, List.length_drop, hl1, hm1]
      have hcp := run_copy_row (P := Tryd.prog) w2.drew 22 22 3 5 B 0 n cap ⟨B, m, none⟩ L k2 cur 5 ((X.drop m).map (Value.int .u8)) Tryd.underlying22 (by kernel_rfl) hrow (by rw [hdl]; exact (Nat.min_eq_left (show L ≤ n by omega)).symm) (fun j v hv => by
        rw [add_mid]
        show w2.cell? ⟨B, m + j, none⟩ = some v
        have hj : j < L := by have := (List.getElem?_eq_some_iff.1 hv).1; omega
        rw [cell_of_row _ _ _ _ _ _ hrow, ← hv, List.map_drop, ← htk, List.getElem?_drop, List.getElem?_take_of_lt (by omega)]
        simp) (by rw [hdl]; omega) (ints_oneCell _ _)
      rw [hdl] at hcp
      obtain ⟨w3, hw3⟩ : ∃ w3, w2.drew.setRow B (cur.toList.take 0 ++ (X.drop m).map (Value.int .u8) ++ cur.toList.drop (0 + L)).toArray = w3 := ⟨_, rfl⟩
      rw [hw3] at hcp
      have hB3 : w3.heap[B]? = some (.cells ((X.drop m).map (Value.int .u8) ++ cur.toList.drop L).toArray 5) := by
        rw [← hw3]
        have := setRow_heap w2.drew B _ (cur.toList.take 0 ++ (X.drop m).map (Value.int .u8) ++ cur.toList.drop (0 + L)).toArray _ _ hrow
        simpa using this
      have hg3 : w3.heap[g]? = some (.cells #[.slice (some ⟨B, 0, none⟩) n cap, .int .i64 (m : Int)] 39) := by
        rw [← hw3]
        exact (setRow_other w2.drew B g _ (Ne.symm hBg)).trans H2.out.1.row
      have hch3 : Chg F W w3 := by
        rw [← hw3]
        refine H2.out.2.tr ⟨rfl, rfl, rfl, by rw [show (w2.drew.setRow B (cur.toList.take 0 ++ (X.drop m).map (Value.int .u8) ++ cur.toList.drop (0 + L)).toArray).heap.size = w2.drew.heap.size by simp [World.setRow]]; exact Nat.le_refl _, fun k hk hn => setRow_other w2.drew B k _ (fun e => hn ?_)⟩
        rw [← HF.out, e]
        simp [Value.ownBlock]
      have st0 : w2.drew.cell? ⟨g, 0, none⟩ = some (.slice (some ⟨B, 0, none⟩) n cap) := c0
      have st3 : w3.cell? ⟨g, 0, none⟩ = some (.slice (some ⟨B, 0, none⟩) n cap) := by rw [cell_of_row _ _ _ _ _ _ hg3]; rfl
      have f3 : w3.frozen? ⟨g, 0, none⟩ = false := frozen_of_row _ _ _ _ _ hg3
      have hps := fun w => run_preR w B L n cap (L : Int) rfl (by omega) (by omega)
      have hrow4 : ((w3.setCell ⟨g, 0, none⟩ (.slice (some ⟨B, 0, none⟩) L cap)).setCell ⟨g, 1, none⟩ (.int .i64 0)).heap[g]? = some (.cells #[.slice (some ⟨B, 0, none⟩) L cap, .int .i64 ((0 : Nat) : Int)] 39) := by
        have h1 := heap_setCell_same w3 g 0 _ _ (.slice (some ⟨B, 0, none⟩) L cap) hg3
        rw [heap_setCell_same _ g 1 _ _ _ h1]
        rfl
      have hB4 : ((w3.setCell ⟨g, 0, none⟩ (.slice (some ⟨B, 0, none⟩) L cap)).setCell ⟨g, 1, none⟩ (.int .i64 0)).heap[B]? = some (.cells ((X.drop m).map (Value.int .u8) ++ cur.toList.drop L).toArray 5) := by
        rw [heap_setCell_other _ _ _ _ hBg, heap_setCell_other _ _ _ _ hBg]
        exact hB3
      have hgF : g ∈ F := by rw [← HF.out]; simp
      have c4 : (w3.setCell ⟨g, 0, none⟩ (.slice (some ⟨B, 0, none⟩) L cap)).cell? ⟨g, 1, none⟩ = some (.int .i64 (m : Int)) := by rw [cell_of_row _ _ _ _ _ _ (heap_setCell_same w3 g 0 _ _ (.slice (some ⟨B, 0, none⟩) L cap) hg3)]; rfl
      have f4 : (w3.setCell ⟨g, 0, none⟩ (.slice (some ⟨B, 0, none⟩) L cap)).frozen? ⟨g, 1, none⟩ = false := frozen_of_row _ _ _ _ _ (heap_setCell_same w3 g 0 _ _ (.slice (some ⟨B, 0, none⟩) L cap) hg3)
      have HZ : Hid (rep g (X.drop m) (g :: [B]) ((w3.setCell ⟨g, 0, none⟩ (.slice (some ⟨B, 0, none⟩) L cap)).setCell ⟨g, 1, none⟩ (.int .i64 0)) ∧ Chg F W ((w3.setCell ⟨g, 0, none⟩ (.slice (some ⟨B, 0, none⟩) L cap)).setCell ⟨g, 1, none⟩ (.int .i64 0)) ∧ B ∈ F ∧ g ∈ F) := by
        have hxl : (X.drop m).length = L := by rw [← hdl, List.length_map]
        refine ⟨⟨.slice (some ⟨B, 0, none⟩) L cap, 0, X.drop m, ⟨hrow4, ?_⟩, rfl, by omega, Nat.zero_le _, rfl⟩, (hch3.tr (chg_cell w3 g 0 _ F hgF)).tr (chg_cell _ g 1 _ F hgF), by rw [← HF.out]; simp [Value.ownBlock], hgF⟩
        rw [hxl]
        refine ⟨by rw [hdl, Nat.mul_one], .inr ⟨B, cap, _, rfl, Nat.zero_le _, hB4, by omega, hcs.1, ?_, ?_⟩⟩
        · rw [List.size_toArray, List.length_append, hdl, List.length_drop, Array.length_toList]; omega
        · rw [Nat.mul_one, ← hdl]
          simp
      obtain ⟨w4, hw4⟩ : ∃ w4, w3.setCell ⟨g, 0, none⟩ (.slice (some ⟨B, 0, none⟩) L cap) = w4 := ⟨_, rfl⟩
      rw [hw4] at HZ c4 f4
      have HW4 : Hid (w3.setCell ⟨g, 0, none⟩ (.slice (some ⟨B, 0, none⟩) L cap) = w4) := hw4
      clear hw4 hrow4 hB4 hB3 hg3 hch3 hw3 hdl htk hcs hrow hl1 hl2 hl3 hl4 hm1 hm2 hm3 h0 hle
      go_upto_region 5 with (fail)
      refine Go.Pin.wp_region_L (fun V => V.cell? ⟨g, 0, none⟩ = some (.slice (some ⟨B, 0, none⟩) n cap)) 14 15 (by rfl) (by kernel_rfl) st0 ?_
      intro Sq fq hNq hRq hSq
      have s0 := fun x => hRq x
      refine Go.Pin.takeL 0 (by simp only [List.getElem?_toArray, List.getElem?_cons_zero, List.getElem?_cons_succ]; exact rfl) (by simp only [List.getElem?_toArray, List.getElem?_cons_zero, List.getElem?_cons_succ]; exact rfl) (by kernel_rfl) (by kernel_rfl) (by kernel_rfl) (by kernel_rfl) (by rfl) (fun _ _ d _ _ h => by cases d <;> exact h) (st0) (hSq).out (by kernel_rfl) ?_
      intro Kq hKq
      go_big_quiet_op
      go_big_quiet_on
      refine Go.Pin.takeL 1 (by simp only [List.getElem?_toArray, List.getElem?_cons_zero, List.getElem?_cons_succ]; exact rfl) (by simp only [List.getElem?_toArray, List.getElem?_cons_zero, List.getElem?_cons_succ]; exact rfl) (by kernel_rfl) (by kernel_rfl) (by kernel_rfl) (by kernel_rfl) (by rfl) (fun _ _ d _ _ h => by cases d <;> exact h) (st0) (hSq).out (by kernel_rfl) ?_
      intro Kq hKq
      go_big_quiet_op
      go_big_quiet_on
      refine takeLV 2 (.pointer (some ⟨g, 0, none⟩)) (by simp only [List.getElem?_toArray, List.getElem?_cons_zero, List.getElem?_cons_succ]; exact rfl) (by simp only [List.getElem?_toArray, List.getElem?_cons_zero, List.getElem?_cons_succ]; exact rfl) (by kernel_rfl) (by kernel_rfl) (by kernel_rfl) (by kernel_rfl) (fun _ _ d _ _ h => by cases d <;> exact h) (st0) (by kernel_rfl) (fun Yq hYq => by unfold execOp; go_simp) ?_
      simp only [Act.put, List.setIfInBounds_toArray, List.set_cons_zero, List.set_cons_succ]
      refine Go.Pin.takeL 3 (by simp only [List.getElem?_toArray, List.getElem?_cons_zero, List.getElem?_cons_succ]; exact rfl) (by simp only [List.getElem?_toArray, List.getElem?_cons_zero, List.getElem?_cons_succ]; exact rfl) (by kernel_rfl) (by kernel_rfl) (by kernel_rfl) (by kernel_rfl) (by rfl) (fun _ _ d _ _ h => by cases d <;> exact h) (st0) (hSq).out (by kernel_rfl) ?_
      intro Kq hKq
      go_big_quiet_op
      go_big_quiet_on
      refine Go.Pin.takeL 4 (by simp only [List.getElem?_toArray, List.getElem?_cons_zero, List.getElem?_cons_succ]; exact rfl) (by simp only [List.getElem?_toArray, List.getElem?_cons_zero, List.getElem?_cons_succ]; exact rfl) (by kernel_rfl) (by kernel_rfl) (by kernel_rfl) (by kernel_rfl) (by rfl) (fun _ _ d _ _ h => by cases d <;> exact h) (st0) (hSq).out (by kernel_rfl) ?_
      intro Kq hKq
      go_big_quiet_op
      go_big_quiet_on
      refine Go.Pin.takeL 5 (by simp only [List.getElem?_toArray, List.getElem?_cons_zero, List.getElem?_cons_succ]; exact rfl) (by simp only [List.getElem?_toArray, List.getElem?_cons_zero, List.getElem?_cons_succ]; exact rfl) (by kernel_rfl) (by kernel_rfl) (by kernel_rfl) (by kernel_rfl) (by rfl) (fun _ _ d _ _ h => by cases d <;> exact h) (st0) (hSq).out (by kernel_rfl) ?_
      intro Kq hKq
      go_big_quiet_op
      go_big_quiet_on
      refine takeLV 6 (.pointer (some ⟨g, 0, none⟩)) (by simp only [List.getElem?_toArray, List.getElem?_cons_zero, List.getElem?_cons_succ]; exact rfl) (by simp only [List.getElem?_toArray, List.getElem?_cons_zero, List.getElem?_cons_succ]; exact rfl) (by kernel_rfl) (by kernel_rfl) (by kernel_rfl) (by kernel_rfl) (fun _ _ d _ _ h => by cases d <;> exact h) (st0) (by kernel_rfl) (fun Yq hYq => by unfold execOp; go_simp) ?_
      simp only [Act.put, List.setIfInBounds_toArray, List.set_cons_zero, List.set_cons_succ]
      refine Go.Pin.takeL 7 (by simp only [List.getElem?_toArray, List.getElem?_cons_zero, List.getElem?_cons_succ]; exact rfl) (by simp only [List.getElem?_toArray, List.getElem?_cons_zero, List.getElem?_cons_succ]; exact rfl) (by kernel_rfl) (by kernel_rfl) (by kernel_rfl) (by kernel_rfl) (by rfl) (fun _ _ d _ _ h => by cases d <;> exact h) (st0) (hSq).out (by kernel_rfl) ?_
      intro Kq hKq
      go_big_quiet_op
      go_big_quiet_on
      refine Go.Pin.takeL 8 (by simp only [List.getElem?_toArray, List.getElem?_cons_zero, List.getElem?_cons_succ]; exact rfl) (by simp only [List.getElem?_toArray, List.getElem?_cons_zero, List.getElem?_cons_succ]; exact rfl) (by kernel_rfl) (by kernel_rfl) (by kernel_rfl) (by kernel_rfl) (by rfl) (fun _ _ d _ _ h => by cases d <;> exact h) (st0) (hSq).out (by kernel_rfl) ?_
      intro Kq hKq
      go_big_quiet_op
      go_big_quiet_on
      refine Go.Pin.takeL 9 (by simp only [List.getElem?_toArray, List.getElem?_cons_zero, List.getElem?_cons_succ]; exact rfl) (by simp only [List.getElem?_toArray, List.getElem?_cons_zero, List.getElem?_cons_succ]; exact rfl) (by kernel_rfl) (by kernel_rfl) (by kernel_rfl) (by kernel_rfl) (by rfl) (fun _ _ d _ _ h => by cases d <;> exact h) (st0) (hSq).out (by kernel_rfl) ?_
      intro Kq hKq
      go_big_quiet_op
      go_big_quiet_on
      refine Go.Pin.readyL 10 (by simp only [List.getElem?_toArray, List.getElem?_cons_zero, List.getElem?_cons_succ]; exact rfl) (by kernel_rfl) (by kernel_rfl) ?_
      intro K hK
      refine wpRun (d := some 40) (v := .int .i64 (L : Int)) (w' := w3) rfl (by unfold execOp; go_simp) (hK _ _ (.inr st3) ?_)
      simp only [Act.put, List.setIfInBounds_toArray, List.set_cons_zero, List.set_cons_succ]
      clear hK K
      refine takeLV 11 (.slice (some ⟨B, 0, none⟩) L cap) (by simp only [List.getElem?_toArray, List.getElem?_cons_zero, List.getElem?_cons_succ]; exact rfl) (by simp only [List.getElem?_toArray, List.getElem?_cons_zero, List.getElem?_cons_succ]; exact rfl) (by kernel_rfl) (by kernel_rfl) (by kernel_rfl) (by kernel_rfl) (fun _ _ d _ _ h => by cases d <;> exact h) (st3) (by kernel_rfl) (fun Yq hYq => by unfold execOp; go_simp) ?_
      simp only [Act.put, List.setIfInBounds_toArray, List.set_cons_zero, List.set_cons_succ]
      refine Go.Pin.readyL 12 (by simp only [List.getElem?_toArray, List.getElem?_cons_zero, List.getElem?_cons_succ]; exact rfl) (by kernel_rfl) (by kernel_rfl) ?_
      intro K hK
      refine wpRun (d := some 42) (v := .pointer (some ⟨g, 0, none⟩)) (w' := w3) rfl (by unfold execOp; go_simp) (hK _ _ (.inr st3) ?_)
      simp only [Act.put, List.setIfInBounds_toArray, List.set_cons_zero, List.set_cons_succ]
      clear hK K
      refine Go.Pin.takeL 13 (by simp only [List.getElem?_toArray, List.getElem?_cons_zero, List.getElem?_cons_succ]; exact rfl) (by simp only [List.getElem?_toArray, List.getElem?_cons_zero, List.getElem?_cons_succ]; exact rfl) (by kernel_rfl) (by kernel_rfl) (by kernel_rfl) (by kernel_rfl) (by rfl) (fun _ _ d _ _ h => by cases d <;> exact h) (st3) (hSq).out (by kernel_rfl) ?_
      intro Kq hKq
      go_big_quiet_op
      go_big_quiet_on
      refine Go.Pin.readyL 14 (by simp only [List.getElem?_toArray, List.getElem?_cons_zero, List.getElem?_cons_succ]; exact rfl) (by kernel_rfl) (by kernel_rfl) ?_
      intro K hK
      unfold Oper.wp execOp
      go_simp
      refine hK _ _ (.inl rfl) ?_
      clear hK K
      refine Go.Pin.wpL_done (by kernel_rfl) ?_
      simp only [HW4.out]
      clear st0 st3 s0 hSq hRq hNq hcp hps c0 c1 f0 f1 f3
      go_wp2
      first | go_end0 | refine bodyPost_ret (results_none rfl _ _ _) rfl ?_
      exact ⟨rfl, HZ.out.2.1, _, HZ.out.1, fun k hk => by
        rcases List.mem_cons.1 hk with rfl | hk
        · exact HZ.out.2.2.2
        · rw [List.mem_singleton.1 hk]; exact HZ.out.2.2.1⟩
    · have b2 : ¬ (L : Int) ≤ (m : Int) := by omega
      have HL0 : Hid (¬ L ≤ m) := hle
      clear h0 hle
      go_wp2
      first | go_end0 | refine bodyPost_ret (results_none rfl _ _ _) rfl ?_
      have hl := HL.out
      have hl2 := HL2.out.1
      have hl3 := HL0.out
      refine ⟨rfl, H2.out.2, F, ⟨_, m, X, H2.out.1, rfl, by rw [List.length_drop]; omega, by rw [List.length_drop]; omega, HF.out.symm⟩, fun k hk => hk⟩
end Go.Proofs.YtdakhiafagambaaDoor
