import Derived.Test.YtdakhiafagambaaDoorFrA
/- stage 20: the law's helpers: same, roomy, stands -/
namespace Go.Proofs.YtdakhiafagambaaDoor
set_option linter.unusedSimpArgs false
set_option linter.unusedVariables false
open Go.ChangeShapes Go.WideShapes Go.ChangeAt Go.RowKit Go.Pin
theorem mk_b (n : Nat) (x : Int) (hx : x = (n : Int)) (hn : n ≤ 1000000) (w : World) : (Instr.makeSlice 22 (.int .i64 x) (.int .i64 x)).run Tryd.prog w = .ok (.slice (some ⟨w.heap.size, 0, none⟩) n n) (w.alloc (.cells (VI .u8 (List.replicate n 0)) 5)) := by
  subst hx
  obtain ⟨i0, hi, hz⟩ := Option.map_eq_some_iff.1 parts_u8
  simp only [Prod.mk.injEq] at hz
  obtain ⟨hz0, hz1, hz2⟩ := hz
  have := run_makeSlice (P := Tryd.prog) w 22 5 i0 (.int .u8 0) Tryd.underlying22 hi hz0 .i64 .i64 (n : Int) (n : Int) (by omega) (Int.le_refl _) (by rw [hz1]; omega) (by rw [hz2]; omega) (by omega)
  rw [this, hz1, Int.toNat_natCast]
  congr 3
  apply Array.ext'
  simp [madeCells, Value.cells, VI]
  refine List.eq_replicate_iff.2 ⟨by simp, ?_⟩
  simp
  intro a _
  rw [Nat.mod_one]
  rfl
def rmk (D : List Int) (i : Nat) : Int := if i < D.length then D.getD i 0 else ((161 + i % 7 : Nat) : Int)
def room (D : List Int) : List Int := (List.range (D.length + 70)).map (rmk D)
def roomT (D : List Int) (m : Nat) : List Int := (List.range (D.length + 70)).map fun i => if i < m then rmk D i else 0
theorem room_len (D : List Int) : (room D).length = D.length + 70 := by simp [room]
theorem roomT_len (D : List Int) (m : Nat) : (roomT D m).length = D.length + 70 := by simp [roomT]
theorem room_at (D : List Int) {j : Nat} (hj : j < D.length + 70) : (room D).getD j 0 = rmk D j := by simp [room, List.getD, hj]
theorem rmk_in (D : List Int) {i : Nat} (h : i < D.length) : rmk D i = D.getD i 0 := by unfold rmk; rw [if_pos h]
theorem rmk_out (D : List Int) {i : Nat} (h : ¬ i < D.length) : rmk D i = ((161 + i % 7 : Nat) : Int) := by unfold rmk; rw [if_neg h]
theorem room_take (D : List Int) : (room D).take D.length = D := by
  apply List.ext_getElem (by simp [room_len])
  intro i h1 h2
  simp [room, rmk, h2]
theorem roomT_zero (D : List Int) : roomT D 0 = List.replicate (D.length + 70) 0 := by
  apply List.ext_getElem (by simp [roomT_len])
  intro i h1 h2
  simp [roomT]
theorem roomT_full (D : List Int) : roomT D (D.length + 70) = room D := by
  apply List.ext_getElem (by simp [roomT_len, room_len])
  intro i h1 h2
  rw [roomT_len] at h1
  simp [roomT, room, h1]
theorem roomT_set (D : List Int) {m : Nat} (hm : m < D.length + 70) : (roomT D m).set m (rmk D m) = roomT D (m + 1) := by
  apply List.ext_getElem (by simp [roomT_len])
  intro i h1 h2
  rw [List.length_set, roomT_len] at h1
  rw [List.getElem_set]
  simp only [roomT, List.getElem_map, List.getElem_range]
  by_cases e : m = i
  · subst e; simp
  · rw [if_neg e]
    by_cases h : i < m
    · rw [if_pos h, if_pos (by omega)]
    · rw [if_neg h, if_neg (by omega)]
theorem roomT_set2 (D : List Int) {m : Nat} (hm : m < D.length + 70) (v : Int) : ((roomT D m).set m v).set m (rmk D m) = roomT D (m + 1) := by rw [List.set_set, roomT_set D hm]
/-- the cells of a slice that is read, in every later world -/
theorem rdb_at {W : World} {q : Nat} (hq : W.heap.size = q) {a : Option Addr} {n cap : Nat} {D : List Int} (hR : RdB W (.slice a n cap) D) : D.length = n ∧ n ≤ cap ∧ ∀ i, i < n → ∃ b o, a = some ⟨b, o, none⟩ ∧ ∀ Y, Below q W Y → Y.cell? ⟨b, o + i, none⟩ = some (.int .u8 (D.getD i 0)) := by
  obtain ⟨h1, h2, h3⟩ := hR.at
  obtain ⟨_, _, e, ⟨h4, _⟩, _⟩ := id hR
  injection e with e1 e2 e3
  subst hq
  exact ⟨h1.symm, by omega, h3⟩
theorem mark7 {i : Nat} (hi : i ≤ 1000000) : IntKind.u8.wrap (161 + (i : Int) % 7) = ((161 + i % 7 : Nat) : Int) := by
  rw [IntKind.wrap_u8']
  omega
/-- a box of bytes, made since w -/
structure BB (q : Nat) (w : World) (g : Nat) (M : List Int) (W : World) : Prop where
  old : Below q w W
  row : W.heap[g]? = some (.cells (VI .u8 M) 5)
theorem bb_new (w : World) (M : List Int) : BB w.heap.size w w.heap.size M (w.alloc (.cells (VI .u8 M) 5)) := ⟨(Below.refl _ _).alloc (Nat.le_refl _) _, heap_alloc_new _ _⟩
theorem BB.lt {q : Nat} {w : World} {g : Nat} {M : List Int} {W : World} (h : BB q w g M W) : g < W.heap.size := (Array.getElem?_eq_some_iff.1 h.row).1
theorem BB.setAt {q : Nat} {w : World} {g : Nat} {M : List Int} {W : World} (h : BB q w g M W) (hg : q ≤ g) (i : Nat) (hi : i < M.length) (v : Int) :
    W.cell? ⟨g, i, none⟩ = some (.int .u8 (M.getD i 0)) ∧ W.frozen? ⟨g, i, none⟩ = false ∧ BB q w g (M.set i v) (W.setCell ⟨g, i, none⟩ (.int .u8 v)) := by
  refine ⟨by rw [cell_of_row W _ _ _ _ _ h.row, VI_at _ _ _ hi], frozen_of_row W _ _ _ _ h.row, h.old.setCell (p := ⟨g, i, none⟩) hg _, ?_⟩
  rw [heap_setCell_same W _ _ _ _ _ h.row]
  simp [VI, List.map_set]
theorem BB.below {q : Nat} {w : World} {g : Nat} {M : List Int} {W Y : World} (h : BB q w g M W) (hb : Below W.heap.size W Y) (hq : q ≤ W.heap.size) : BB q w g M Y := ⟨h.old.trans (hb.mono hq), (hb.block g h.lt).trans h.row⟩
/-- a piece of a box is read -/
theorem row_rd {W : World} {g : Nat} {M : List Int} {T : TypeId} {fr : Nat × Nat} (h : W.heap[g]? = some (.cells (VI .u8 M) T fr)) {o n cap : Nat} (hn : o + n ≤ M.length) (hc : n ≤ cap) (hm : n ≤ 140737488355328) : RdB W (.slice (some ⟨g, o, none⟩) n cap) ((M.drop o).take n) := by
  have hl : ((M.drop o).take n).length = n := by simp; omega
  refine ⟨some ⟨g, o, none⟩, cap, by rw [hl], ⟨by rw [hl]; exact hc, fun h => nomatch h⟩, by rw [hl]; exact hm, .inr ⟨g, o, rfl, fun j u hu => ?_⟩⟩
  have hj : j < n := by have := (List.getElem?_eq_some_iff.1 hu).1; simp at this; omega
  rw [cell_of_row _ _ _ _ _ _ h, VI_at _ _ _ (by omega)]
  rw [List.getElem?_map, List.getElem?_take_of_lt hj, List.getElem?_drop] at hu
  rw [List.getD_eq_getElem?_getD]
  cases e : M[o + j]? with
  | none => rw [e] at hu; simp at hu
  | some x => rw [e] at hu; simp at hu; rw [← hu]; rfl
set_option maxRecDepth 100000 in
set_option maxHeartbeats 2000000 in
theorem same_true {W : World} {u v : Value} {C : List Int} (hu : RdB W u C) (hv : RdB W v C) :
    Calls Tryd.prog 13 #[u, v] W fun e w' => e = .returned (.bool true) ∧ Below W.heap.size W w' := by
  obtain ⟨a, ca, rfl, -, -, -⟩ := id hu
  obtain ⟨b, cb, rfl, -, -, -⟩ := id hv
  obtain ⟨-, hal, hua⟩ := hu.at
  obtain ⟨-, hbl, hvb⟩ := hv.at
  obtain ⟨q, hq⟩ : ∃ q, W.heap.size = q := ⟨_, rfl⟩
  obtain ⟨n, hnl⟩ : ∃ n, C.length = n := ⟨_, rfl⟩
  rw [hnl] at hua hvb hal
  rw [hnl]
  have HN : Hid (n ≤ 140737488355328) := hal
  have HA : Hid _ := hua
  have HB : Hid _ := hvb
  rw [hq]
  clear hu hv hua hvb hbl hal hnl
  go_enter Tryd.func13, Tryd.ntmps13
  go_wp2
  go_loopw [5] (fun v5 wr => ∃ i : Nat, i ≤ n ∧ v5 = .int .i64 i ∧ Below q W wr) (fun v _ => n - (intOf v).toNat)
  case atStart => exact ⟨0, Nat.zero_le _, rfl, Below.refl _ _⟩
  case round =>
    obtain ⟨i, hi, rfl, hp⟩ := hrel
    have HP : Hid (Below q W wr) := hp
    by_cases hlt : i < n
    · have b1 : (i : Int) < (n : Int) := by omega
      obtain ⟨g, o, rfl, h1⟩ := HA.out i hlt
      obtain ⟨g', o', rfl, h2⟩ := HB.out i hlt
      have c := h1 wr (by rw [hq]; exact hp)
      have d := h2 wr (by rw [hq]; exact hp)
      generalize C.getD i 0 = x at *
      clear h1 h2 hp
      go_wp2
      go_quiet (fail)
      go_wp2
      exact ⟨⟨i + 1, hlt, congrArg (Value.int .i64) (wrapS hlt HN.out), drewN_below HP.out _⟩, measS hlt HN.out⟩
    · have b1 : ¬ (i : Int) < (n : Int) := by omega
      clear hp
      go_wp2
      go_ret
      exact ⟨rfl, HP.out⟩
set_option maxRecDepth 100000 in
set_option maxHeartbeats 8000000 in
theorem roomy_any (W : World) (D : List Int) (a : Option Addr) (n cap : Nat) (hR : RdB W (.slice a n cap) D) (hn : n ≤ 300000) :
    Calls Tryd.prog 9 #[.slice a n cap] W fun e w' => e = .returned (.slice (some ⟨W.heap.size, 0, none⟩) (n + 70) (n + 70)) ∧ BB W.heap.size W W.heap.size (room D) w' := by
  obtain ⟨q, hq⟩ : ∃ q, W.heap.size = q := ⟨_, rfl⟩
  obtain ⟨hDn, hnc, hat⟩ := rdb_at hq hR
  have hmk := mk_b (n + 70) ((n : Int) + 70) (by omega) (by omega) W
  have e1 := bb_new W (List.replicate (n + 70) 0)
  obtain ⟨W0, hW0⟩ : ∃ V, W.alloc (.cells (VI .u8 (List.replicate (n + 70) 0)) 5) = V := ⟨_, rfl⟩
  rw [hW0, hq] at hmk e1
  have hz := roomT_zero D
  rw [hDn] at hz
  rw [← hz] at e1
  have E1 : Hid (BB q W q (roomT D 0) W0) := e1
  have HD : Hid (D.length = n ∧ n ≤ 300000 ∧ ∀ i, i < n → ∃ b o, a = some ⟨b, o, none⟩ ∧ ∀ Y, Below q W Y → Y.cell? ⟨b, o + i, none⟩ = some (.int .u8 (D.getD i 0))) := ⟨hDn, hn, hat⟩
  obtain ⟨N, hN⟩ : ∃ N, n + 70 = N := ⟨_, rfl⟩
  rw [hq]
  rw [hN] at hmk ⊢
  have HN : Hid (n + 70 = N) := hN
  have hwn : wrap64 ((n : Int) + 70) = (N : Int) ∧ IntKind.i64.wrap ((n : Int) + 70) = (N : Int) := by
    rw [IntWalk.wrap64_in _ ⟨by omega, by omega⟩, IntWalk.i64_in _ ⟨by omega, by omega⟩]
    omega
  have hmk' : (Instr.makeSlice 22 (.int .i64 (N : Int)) (.int .i64 (N : Int))).run Tryd.prog W = .ok (.slice (some ⟨q, 0, none⟩) N N) W0 := by
    rw [← show (n : Int) + 70 = (N : Int) by omega]; exact hmk
  clear e1 hat hDn hnc hR hz hN hn hW0 hmk
  obtain ⟨hw1, hw2⟩ := hwn
  go_enter Tryd.func9, Tryd.ntmps9
  go_wp2
  go_loopw [4] (fun v w' => ∃ i : Nat, i ≤ N ∧ v = .int .i64 (i : Int) ∧ BB q W q (roomT D i) w') (fun v _ => N - (intOf v).toNat)
  case atStart => exact ⟨0, Nat.zero_le _, rfl, E1.out⟩
  case round =>
    clear E1 hmk' hw1 hw2
    obtain ⟨i, hi, rfl, he⟩ := hrel
    by_cases hlt : i < N
    · have b1 : (i : Int) < (N : Int) := by omega
      have hiD : i < D.length + 70 := by rw [HD.out.1, HN.out]; exact hlt
      have hiL : i < (roomT D i).length := by rw [roomT_len]; exact hiD
      have hib : i ≤ 1000000 := by have := HD.out.2.1; have := HN.out; omega
      obtain ⟨c1, f1, e1⟩ := he.setAt (Nat.le_refl _) i hiL (((161 + i % 7 : Nat)) : Int)
      have hmk7 := mark7 hib
      obtain ⟨v, hv⟩ : ∃ v : Int, (((161 + i % 7 : Nat)) : Int) = v := ⟨_, rfl⟩
      rw [hv] at e1 hmk7
      obtain ⟨W1, hW1⟩ : ∃ V, wr.setCell ⟨q, i, none⟩ (.int .u8 v) = V := ⟨_, rfl⟩
      rw [hW1] at e1
      have HB : Hid (i < N ∧ N ≤ 300070) := ⟨hlt, by have := HD.out.2.1; have := HN.out; omega⟩
      by_cases hin : i < n
      · have b2 : (i : Int) < (n : Int) := by omega
        obtain ⟨b, o, rfl, hcc⟩ := HD.out.2.2 i hin
        have cb := hcc W1 e1.old
        obtain ⟨c2, f2, e2⟩ := e1.setAt (Nat.le_refl _) i (by rw [List.length_set]; exact hiL) (D.getD i 0)
        rw [← rmk_in D (by rw [HD.out.1]; exact hin), roomT_set2 D hiD] at e2
        rw [rmk_in D (by rw [HD.out.1]; exact hin)] at e2
        obtain ⟨z, hz⟩ : ∃ z, D.getD i 0 = z := ⟨_, rfl⟩
        rw [hz] at cb e2
        obtain ⟨W2, hW2⟩ : ∃ V, W1.setCell ⟨q, i, none⟩ (.int .u8 z) = V := ⟨_, rfl⟩
        rw [hW2] at e2
        have HE : Hid _ := e2
        clear e1 e2 he hcc hi hv hz hib hiD hiL
        go_wp2
        go_roundw
        case rel => exact ⟨i + 1, HB.out.1, congrArg (Value.int .i64) (wrapS HB.out.1 (by have := HB.out.2; omega)), HE.out⟩
        case measure => exact measS HB.out.1 (by have := HB.out.2; omega)
      · have b2 : ¬ (i : Int) < (n : Int) := by omega
        rw [← hv, ← rmk_out D (by rw [HD.out.1]; exact hin), roomT_set D hiD] at e1
        have HE : Hid _ := e1
        clear e1 he hi hv hib hiD hiL
        go_wp2
        go_roundw
        case rel => exact ⟨i + 1, HB.out.1, congrArg (Value.int .i64) (wrapS HB.out.1 (by have := HB.out.2; omega)), HE.out⟩
        case measure => exact measS HB.out.1 (by have := HB.out.2; omega)
    · have b1 : ¬ (i : Int) < (N : Int) := by omega
      have hi' : i = D.length + 70 := by rw [HD.out.1, HN.out]; omega
      rw [hi', roomT_full] at he
      have HE : Hid (BB q W q (room D) wr) := he
      clear he hi' hi
      go_wp2
      go_ret
      exact ⟨rfl, HE.out⟩
set_option maxRecDepth 100000 in
set_option maxHeartbeats 16000000 in
theorem stands_any (W : World) (D : List Int) (a a2 : Option Addr) (n N cap cap2 : Nat) (hR : RdB W (.slice a N cap) (room D)) (hR2 : RdB W (.slice a2 n cap2) D) (hn : n ≤ 300000) :
    Calls Tryd.prog 14 #[.slice a N cap, .slice a2 n cap2] W fun e w' => e = .returned (.bool true) ∧ Below W.heap.size W w' := by
  obtain ⟨q, hq⟩ : ∃ q, W.heap.size = q := ⟨_, rfl⟩
  obtain ⟨hl1, _, hat1⟩ := rdb_at hq hR
  obtain ⟨hl2, _, hat2⟩ := rdb_at hq hR2
  rw [room_len, hl2] at hl1
  have HD : Hid (D.length = n ∧ n + 70 = N ∧ n ≤ 300000 ∧ (∀ i, i < N → ∃ b o, a = some ⟨b, o, none⟩ ∧ ∀ Y, Below q W Y → Y.cell? ⟨b, o + i, none⟩ = some (.int .u8 ((room D).getD i 0))) ∧ (∀ i, i < n → ∃ b o, a2 = some ⟨b, o, none⟩ ∧ ∀ Y, Below q W Y → Y.cell? ⟨b, o + i, none⟩ = some (.int .u8 (D.getD i 0)))) := ⟨hl2, hl1, hn, hat1, hat2⟩
  have HB0 : Hid (Below q W W) := Below.refl _ _
  rw [hq]
  clear hl1 hl2 hat1 hat2 hR hR2 hn hq
  go_enter Tryd.func14, Tryd.ntmps14
  go_wp2
  go_loopw [5] (fun v w' => ∃ i : Nat, i ≤ N ∧ v = .int .i64 (i : Int) ∧ Below q W w') (fun v _ => N - (intOf v).toNat)
  case atStart => exact ⟨0, Nat.zero_le _, rfl, HB0.out⟩
  case round =>
    clear HB0
    obtain ⟨i, hi, rfl, hp⟩ := hrel
    by_cases hlt : i < N
    · have b1 : (i : Int) < (N : Int) := by omega
      obtain ⟨b, o, rfl, hcc⟩ := HD.out.2.2.2.1 i hlt
      have c1 := hcc wr hp
      rw [room_at D (by rw [HD.out.1, HD.out.2.1]; exact hlt)] at c1
      have HB : Hid (i < N ∧ N ≤ 300070) := ⟨hlt, by have := HD.out.2.1; have := HD.out.2.2.1; omega⟩
      have HP : Hid (Below q W wr) := hp
      by_cases hin : i < n
      · have b2 : (i : Int) < (n : Int) := by omega
        have b3 : ¬ (n : Int) ≤ (i : Int) := by omega
        have b4 : decide ((n : Int) ≤ (i : Int)) = false := decide_eq_false b3
        obtain ⟨b', o', rfl, hcc2⟩ := HD.out.2.2.2.2 i hin
        have c2 := hcc2 wr hp
        rw [rmk_in D (by rw [HD.out.1]; exact hin)] at c1
        obtain ⟨z, hz⟩ : ∃ z, D.getD i 0 = z := ⟨_, rfl⟩
        rw [hz] at c1 c2
        clear hcc hcc2 hi hz hp
        go_upto_region 4 with fail
        go_quiet (fail)
        go_wp2
        go_roundw
        case rel => exact ⟨i + 1, HB.out.1, congrArg (Value.int .i64) (wrapS HB.out.1 (by have := HB.out.2; omega)), drewN_below HP.out _⟩
        case measure => exact measS HB.out.1 (by have := HB.out.2; omega)
      · have b2 : ¬ (i : Int) < (n : Int) := by omega
        have b2' : decide ((i : Int) < (n : Int)) = false := decide_eq_false b2
        have b3 : (n : Int) ≤ (i : Int) := by omega
        have hmk := mark7 (i := i) (by have := HB.out; omega)
        rw [rmk_out D (by rw [HD.out.1]; exact hin)] at c1
        obtain ⟨v, hv⟩ : ∃ v : Int, ((161 + i % 7 : Nat) : Int) = v := ⟨_, rfl⟩
        rw [hv] at c1 hmk
        clear hcc hi hv hp
        go_upto_region 4 with fail
        go_quiet (fail)
        go_wp2
        go_roundw
        case rel => exact ⟨i + 1, HB.out.1, congrArg (Value.int .i64) (wrapS HB.out.1 (by have := HB.out.2; omega)), drewN_below HP.out _⟩
        case measure => exact measS HB.out.1 (by have := HB.out.2; omega)
    · have b1 : ¬ (i : Int) < (N : Int) := by omega
      have HP : Hid (Below q W wr) := hp
      clear hi hp
      go_wp2
      go_ret
      exact ⟨rfl, HP.out⟩
end Go.Proofs.YtdakhiafagambaaDoor
