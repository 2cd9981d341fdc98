import Derived.Test.YtacofgmnmofkpaaMfav
namespace Go.Proofs.Ytacofgmnmofkpaa
set_option linter.unusedSimpArgs false
set_option linter.unusedVariables false
open Go.ChangeShapes Go.WideShapes Go.ChangeAt Go.RowKit Go.Pin Go.Fld
def stZ : Array Value := stA 0 0 0 0 (List.replicate 32 0) 0 0
theorem zero_step (w : World) : (zeroValue 60).run Try.prog w = .ok (.agg stZ) w := by kernel_rfl
theorem stZ_size : stZ.size = 38 := by kernel_rfl
theorem stZ_ne : ¬ stZ = #[] := fun e => by have := stZ_size; rw [e] at this; simp at this
theorem foldSet (o : Nat) : ∀ (L : List Value) (n : Nat) (cs : Array Value), o + n + L.length ≤ cs.size → List.foldl (fun cs x => cs.setIfInBounds (o + x.snd) x.fst) cs (L.zipIdx n) = (cs.toList.take (o + n) ++ (L ++ cs.toList.drop (o + n + L.length))).toArray
  | [], n, cs, h => by simp
  | v :: r, n, cs, h => by
    rw [List.length_cons] at h
    have hlt : o + n < cs.toList.length := by rw [Array.length_toList]; omega
    rw [List.zipIdx_cons, List.foldl_cons, foldSet o r (n + 1) _ (by rw [Array.size_setIfInBounds]; omega)]
    congr 1
    rw [Array.toList_setIfInBounds, show o + (n + 1) = (o + n) + 1 by omega, List.drop_set_of_lt (by omega), List.take_set, List.take_add_one, List.getElem?_eq_getElem hlt, show o + n + 1 + r.length = o + n + (v :: r).length by simp; omega]
    simp only [Option.toList, List.append_assoc]
    rw [List.set_append_right _ _ (by simp; omega)]
    simp only [List.length_take, Nat.min_eq_left (Nat.le_of_lt hlt), Nat.sub_self, List.cons_append, List.nil_append, List.set_cons_zero]
    rw [List.append_assoc]; rfl
theorem stBase (k : Int) : (stZ.setIfInBounds 0 (Value.int .i64 1)).setIfInBounds 3 (Value.int .i64 k) = stA 1 0 0 k (List.replicate 32 0) 0 0 := by kernel_rfl
theorem stFold {D : List Int} (hD : D.length = 32) (k : Int) : List.foldl (fun cs x => cs.setIfInBounds (4 + x.snd) x.fst) ((stZ.setIfInBounds 0 (Value.int .i64 1)).setIfInBounds 3 (Value.int .i64 k)) (D.map (Value.int .u8)).zipIdx = stA 1 0 0 k D 0 0 := by
  rw [stBase, foldSet 4 _ 0 _ (by simp [stA, VI, hD]), stA_list]
  apply Array.ext'
  rw [stA_list]
  simp [hD]
set_option maxRecDepth 100000 in
set_option maxHeartbeats 8000000 in
theorem grows_walk (bg : Array Value) (f : Nat → List Int) (v : Value) (sc : List Stp) (tm : Int) (w : World) (hbs : bg.size = 256) (hf : ∀ i, i < 8 → Key32 (f i) ∧ ∀ j, j < 32 → bg[i * 32 + j]? = some (.int .u8 ((f i).getD j 0))) (h : Scr w v sc) :
    Calls Try.prog 5 #[.agg bg, v, .int .i64 tm] w fun e w' => e = .returned (.bool true) ∧ Below w.heap.size w w' := by
  obtain ⟨a, cp, rfl, hcp, h⟩ := h
  have HSC : Hid (sc = [] ∨ ∃ b o, a = some ⟨b, o, none⟩ ∧ b < w.heap.size ∧ ∀ i q, sc[i]? = some q → w.rangeAt b (o + i * 38) q.cells ∧ q.ok) := h
  have HF : Hid (∀ i, i < 8 → Key32 (f i) ∧ ∀ j, j < 32 → bg[i * 32 + j]? = some (.int .u8 ((f i).getD j 0))) := hf
  have hzb := zero_bank
  have hzs := zero_step
  have HK : Hid (∀ w, Calls Try.prog 19 #[] w fun e w' => e = .returned (.bool true) ∧ Below w.heap.size w w') := known_any
  have hE := ((ev_nil' w).new (.cells bg 62)).new bxB
  rw [size_alloc] at hE
  obtain ⟨W0, hW⟩ : ∃ W0, (w.alloc (.cells bg 62)).alloc (.cells bankZ 53) = W0 := ⟨_, rfl⟩
  rw [show (w.alloc (.cells bg 62)).alloc bxB = W0 from hW] at hE
  obtain ⟨g, hg⟩ : ∃ g, w.heap.size + 1 = g := ⟨_, rfl⟩
  rw [hg] at hE
  have X0 : Hid (∃ lr es ns vs ll, lr.length ≤ 0 ∧ ll.length ≤ 0 ∧ SB w.heap.size w (.pointer none) lr g es ns vs ll [(w.heap.size, .cells bg 62)] W0 ∧ ∀ j, j < 8 → num (es j) = ns j) := ⟨_, _, _, _, _, Nat.le_refl _, Nat.le_refl _, sb_new hE (by simp only [List.mem_cons, List.not_mem_nil, or_false, forall_eq]; omega), num_zeros⟩
  clear h hE hf
  go_enter Try.func5, Try.ntmps5
  go_wp2_with fail
  try simp only [hg]
  clear hzb
  go_loopw [8] (fun i w' => ∃ k : Nat, k ≤ 8 ∧ i = .int .i64 k ∧ ∃ lr es ns vs ll, lr.length ≤ k ∧ ll.length ≤ k ∧ SB w.heap.size w (.pointer none) lr g es ns vs ll [(w.heap.size, .cells bg 62)] w' ∧ ∀ j, j < 8 → num (es j) = ns j) (fun i _ => 8 - (intOf i).toNat)
  case atStart => exact ⟨0, by omega, rfl, X0.out⟩
  case round =>
    clear X0 hW
    obtain ⟨k, hk, rfl, hB⟩ := hrel
    have HB : Hid (∃ lr es ns vs ll, lr.length ≤ k ∧ ll.length ≤ k ∧ SB w.heap.size w (.pointer none) lr g es ns vs ll [(w.heap.size, .cells bg 62)] wr ∧ ∀ j, j < 8 → num (es j) = ns j) := hB
    clear hB
    by_cases hlt : k < 8
    · have hlt' : (k : Int) < 8 := by omega
      obtain ⟨kD, hcl⟩ := HF.out k hlt
      obtain ⟨lr, es, ns, vs, ll, hl, hll, hbw, hR⟩ := HB.out
      have hrow := hbw.row (k := w.heap.size) (x := .cells bg 62) (by simp)
      have HRG : Hid (wr.rangeAt w.heap.size (k * 32) ((f k).map (Value.int .u8))) := fun j u hu => by
        have hj : j < (f k).length := by simpa using (List.getElem?_eq_some_iff.1 hu).1
        rw [cell_of_row wr w.heap.size _ _ _ _ hrow, hcl j (by rw [kD.len] at hj; exact hj), ← hu, List.getElem?_map, List.getElem?_eq_getElem hj, List.getD_eq_getElem?_getD, List.getElem?_eq_getElem hj]
        rfl
      have HI : Hid ((Try.prog.info? 57).map (·.size) = some ((f k).map (Value.int .u8)).length) := by
        show _ = _
        rw [List.length_map, kD.len]; kernel_rfl
      have HSTP : Hid (Calls Try.prog 17 #[.pointer (some ⟨g, 0, none⟩), .pointer none, .agg (stA 1 0 0 k (f k) 0 0)] wr fun e w' => e = .returned (.tuple #[]) ∧ ∃ lr es ns vs ll, lr.length ≤ k + 1 ∧ ll.length ≤ k + 1 ∧ SB w.heap.size w (.pointer none) lr g es ns vs ll [(w.heap.size, .cells bg 62)] w' ∧ ∀ j, j < 8 → num (es j) = ns j) := by
        refine (step_any (1, 0, 0, (k : Int), f k, 0, 0) ⟨kD, ⟨Int.le_refl 0, by show (0 : Int) < 4294967296; decide⟩, Int.le_refl 0, by show (0 : Int) < 18446744073709551616; decide⟩ hbw (by omega) (by omega) hR).mono ?_
        rintro e w' ⟨he, es', vs', h3, h4⟩
        exact ⟨he, _, _, _, _, _, by rw [List.length_append]; have := stL_len 1; simp only at *; omega, by rw [List.length_append]; have := stL_len 1; simp only at *; omega, h3, h4⟩
      have HD32 : Hid ((f k).length = 32) := kD.len
      clear hbw hl hll hR hrow hcl kD HB
      generalize f k = D at *
      have hD := HD32.out
      have hss := stZ_size
      have hne := stZ_ne
      go_wp2_with (with_reducible refine at_list ?_; refine wpList_load_mid rfl 57 (.tmp 20) rfl w.heap.size (k * 32) rfl (D.map (Value.int .u8)) _ HRG.out Try.underlying57 rfl HI.out ?_)
      rw [stFold hD]
      refine HSTP.out.mono ?_
      rintro e W5 ⟨rfl, h5⟩
      have H5 : Hid (∃ lr es ns vs ll, lr.length ≤ k + 1 ∧ ll.length ≤ k + 1 ∧ SB w.heap.size w (.pointer none) lr g es ns vs ll [(w.heap.size, .cells bg 62)] W5 ∧ ∀ j, j < 8 → num (es j) = ns j) := h5
      clear h5 HSTP
      go_wp2
      go_roundw
      case rel => exact ⟨k + 1, by omega, by go_num, H5.out⟩
      case measure => simp [intOf]; omega
    · have hk8 : k = 8 := by omega
      have HB8 : Hid (∃ lr es ns vs ll, lr.length ≤ 8 ∧ ll.length ≤ 8 ∧ SB w.heap.size w (.pointer none) lr g es ns vs ll [(w.heap.size, .cells bg 62)] wr ∧ ∀ j, j < 8 → num (es j) = ns j) := by
        obtain ⟨lr, es, ns, vs, ll, hl, hll, hbw, hR⟩ := HB.out
        exact ⟨lr, es, ns, vs, ll, by omega, by omega, hbw, hR⟩
      obtain ⟨k', hk'⟩ : ∃ k' : Nat, k' = k := ⟨_, rfl⟩
      rw [← hk'] at hlt ⊢
      have hn8 : ¬ (k' : Int) < 8 := by omega
      clear hzs HB hk8 hk hk'
      go_wp2_with fail
      go_loopw [9] (fun t w' => ∃ n : Nat, n ≤ 20 ∧ t = .int .i64 n ∧ ∃ lr es ns vs ll, lr.length ≤ 8 + n * 60 ∧ ll.length ≤ 8 + n * 60 ∧ SB w.heap.size w (.pointer none) lr g es ns vs ll [(w.heap.size, .cells bg 62)] w' ∧ ∀ j, j < 8 → num (es j) = ns j) (fun t _ => 20 - (intOf t).toNat)
      case atStart => exact ⟨0, by omega, rfl, HB8.out⟩
      case round =>
        clear HB8
        obtain ⟨n, hn, rfl, hB⟩ := hrel
        have HB : Hid (∃ lr es ns vs ll, lr.length ≤ 8 + n * 60 ∧ ll.length ≤ 8 + n * 60 ∧ SB w.heap.size w (.pointer none) lr g es ns vs ll [(w.heap.size, .cells bg 62)] wr ∧ ∀ j, j < 8 → num (es j) = ns j) := hB
        clear hB
        by_cases hgo : (n : Int) ≤ tm ∧ n < 20
        · obtain ⟨g1, g2⟩ := hgo
          have g2' : (n : Int) < 20 := by omega
          go_wp2_with fail
          go_loopw [10] (fun i w' => ∃ k : Nat, k ≤ 60 ∧ i = .int .i64 k ∧ ∃ lr es ns vs ll, lr.length ≤ 8 + n * 60 + k ∧ ll.length ≤ 8 + n * 60 + k ∧ SB w.heap.size w (.pointer none) lr g es ns vs ll [(w.heap.size, .cells bg 62)] w' ∧ ∀ j, j < 8 → num (es j) = ns j) (fun i _ => 60 - (intOf i).toNat)
          case atStart => exact ⟨0, by omega, rfl, HB.out⟩
          case round =>
            clear HB
            obtain ⟨k, hk, rfl, hB⟩ := hrel
            have HB : Hid (∃ lr es ns vs ll, lr.length ≤ 8 + n * 60 + k ∧ ll.length ≤ 8 + n * 60 + k ∧ SB w.heap.size w (.pointer none) lr g es ns vs ll [(w.heap.size, .cells bg 62)] wr ∧ ∀ j, j < 8 → num (es j) = ns j) := hB
            clear hB
            by_cases hgo : k < sc.length ∧ k < 60
            · obtain ⟨k1, k2⟩ := hgo
              have k2' : (k : Int) < 60 := by omega
              obtain ⟨q, hq⟩ : ∃ q, sc[k]? = some q := ⟨_, List.getElem?_eq_getElem k1⟩
              obtain ⟨b, o, rfl, hb, hall⟩ := HSC.out.resolve_left (fun e => by subst e; simp at k1)
              obtain ⟨h1, h2⟩ := hall k q hq
              obtain ⟨lr, es, ns, vs, ll, hl, hll, hbw, hR⟩ := HB.out
              have HRG : Hid (wr.rangeAt b (o + k * 38) q.cells) := range_below hbw.old hb h1
              have HI : Hid ((Try.prog.info? 60).map (·.size) = some q.cells.length) := infoStep' h2
              have HSTP : Hid (Calls Try.prog 17 #[.pointer (some ⟨g, 0, none⟩), .pointer none, .agg q.cells.toArray] wr fun e w' => e = .returned (.tuple #[]) ∧ ∃ lr es ns vs ll, lr.length ≤ 8 + n * 60 + (k + 1) ∧ ll.length ≤ 8 + n * 60 + (k + 1) ∧ SB w.heap.size w (.pointer none) lr g es ns vs ll [(w.heap.size, .cells bg 62)] w' ∧ ∀ j, j < 8 → num (es j) = ns j) := by
                refine (step_any q h2 hbw (by omega) (by omega) hR).mono ?_
                rintro e w' ⟨he, es', vs', h3, h4⟩
                exact ⟨he, _, _, _, _, _, by rw [List.length_append]; have := stL_len q.1; omega, by rw [List.length_append]; have := stL_len q.1; omega, h3, h4⟩
              clear hall h1 h2 hbw hl hll hq HB hR
              generalize q.cells = QC at *
              go_wp2_with (with_reducible refine at_list ?_; refine wpList_load_mid rfl 60 (.tmp 46) rfl b (o + k * 38) rfl QC _ HRG.out Try.underlying60 rfl HI.out ?_)
              refine HSTP.out.mono ?_
              rintro e W5 ⟨rfl, h5⟩
              have H5 : Hid (∃ lr es ns vs ll, lr.length ≤ 8 + n * 60 + (k + 1) ∧ ll.length ≤ 8 + n * 60 + (k + 1) ∧ SB w.heap.size w (.pointer none) lr g es ns vs ll [(w.heap.size, .cells bg 62)] W5 ∧ ∀ j, j < 8 → num (es j) = ns j) := h5
              clear h5 HSTP
              go_wp2
              go_roundw
              case rel => exact ⟨k + 1, by omega, by go_num, H5.out⟩
              case measure => simp [intOf]; omega
            · have hex : ¬ k < sc.length ∨ (k < sc.length ∧ ¬ (k : Int) < 60) := by omega
              clear hgo
              have HB2 : Hid (∃ lr es ns vs ll, lr.length ≤ 8 + (n + 1) * 60 ∧ ll.length ≤ 8 + (n + 1) * 60 ∧ SB w.heap.size w (.pointer none) lr g es ns vs ll [(w.heap.size, .cells bg 62)] wr ∧ ∀ j, j < 8 → num (es j) = ns j) := by
                obtain ⟨lr, es, ns, vs, ll, hl, hll, hbw, hR⟩ := HB.out
                exact ⟨lr, es, ns, vs, ll, by omega, by omega, hbw, hR⟩
              clear HB
              rcases hex with k1 | ⟨k1, k2⟩
              all_goals (
                go_wp2
                go_roundw
                case rel => exact ⟨n + 1, by omega, by go_num, HB2.out⟩
                case measure => simp [intOf]; omega)
        · have hex : decide ((n : Int) ≤ tm) = false ∨ (decide ((n : Int) ≤ tm) = true ∧ ¬ (n : Int) < 20) := by
            by_cases g1 : (n : Int) ≤ tm
            · exact .inr ⟨decide_eq_true g1, fun g2 => hgo ⟨g1, by omega⟩⟩
            · exact .inl (decide_eq_false g1)
          clear hgo
          obtain ⟨lr, es, ns, vs, ll, hl, hll, hbw, hR⟩ := HB.out
          have HST : Hid (Calls Try.prog 16 #[.pointer (some ⟨g, 0, none⟩)] wr fun e w' => e = .returned (.bool true) ∧ Below wr.heap.size wr w') := stands_any g _ _ _ (hbw.bn.bank hR)
          have HO : Hid (Below w.heap.size w wr) := hbw.old
          clear hbw hl hll hR HB
          rcases hex with g1 | ⟨g1, g2⟩
          all_goals (
            go_wp2_with fail
            refine HST.out.mono ?_
            rintro e W8 ⟨rfl, h8⟩
            have H8 : Hid (Below w.heap.size w W8) := HO.out.trans (h8.mono HO.out.size)
            clear h8
            go_wp2_with fail
            refine (HK.out _).mono ?_
            rintro e W9 ⟨rfl, h9⟩
            have H9 : Hid (Below w.heap.size w W9) := H8.out.trans (h9.mono H8.out.size)
            clear h9
            go_wp2
            go_ret
            exact ⟨rfl, H9.out⟩)
end Go.Proofs.Ytacofgmnmofkpaa
