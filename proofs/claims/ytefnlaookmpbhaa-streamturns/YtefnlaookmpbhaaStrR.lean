import Derived.Test.YtefnlaookmpbhaaStrP
namespace Go.Proofs.Ytefnlaookmpbhaa
set_option linter.unusedSimpArgs false
set_option linter.unusedVariables false
open Go.ChangeShapes Go.WideShapes Go.ChangeAt Go.RowKit Go.Pin Go.Str
/-- a slice that reads D -/
def Rd (w : World) (v : Value) (D : List Nat) : Prop :=
  ∃ a cap, v = .slice a D.length cap ∧ D.length ≤ cap ∧ (D = [] ∨ ∃ b o, a = some ⟨b, o, none⟩ ∧ ∀ j, j < D.length → w.cell? ⟨b, o + j, none⟩ = some (.int .u8 ((D.getD j 0 : Nat) : Int)))
theorem cell_lt {w : World} {b o : Nat} {v : Value} (h : w.cell? ⟨b, o, none⟩ = some v) : b < w.heap.size := World.block_lt_of_cell? w _ h
theorem Rd.grow {w w' : World} {v : Value} {D : List Nat} (h : Rd w v D) {S : Nat → Prop} (hb : Grow S w w') (hn : ∀ k, v.ownBlock = some k → ¬ S k) : Rd w' v D := by
  obtain ⟨a, cap, rfl, hc, h⟩ := h
  refine ⟨a, cap, rfl, hc, ?_⟩
  rcases h with h | ⟨b, o, rfl, h⟩
  · exact .inl h
  · refine .inr ⟨b, o, rfl, fun j hj => ?_⟩
    have := h j hj
    rw [World.cell?_of_block (a := ⟨b, o + j, none⟩) (hb.block b (cell_lt this) (hn b rfl))]
    exact this
theorem Rd.below {w w' : World} {v : Value} {D : List Nat} (h : Rd w v D) (hb : Below w.heap.size w w') : Rd w' v D := h.grow (Grow.of_below (S := fun _ => False) hb) (fun _ _ h => h)
theorem RB.rd {w : World} {g : Nat} {L : List Nat} {T : TypeId} {fr : Nat × Nat} (h : RB w g L T fr) (o n cap : Nat) (ho : o + n ≤ L.length) (hc : n ≤ cap) : Rd w (.slice (some ⟨g, o, none⟩) n cap) (sub L o n) := by
  have e := sub_len L o n ho
  refine ⟨some ⟨g, o, none⟩, cap, by rw [e], by rw [e]; exact hc, .inr ⟨g, o, rfl, fun j hj => ?_⟩⟩
  rw [e] at hj
  rw [sub_at _ _ _ _ hj]
  exact h.cell (by omega)
/-- bytes, and marks behind them -/
def room (D : List Nat) : List Nat := (List.range (D.length + 70)).map fun i => if i < D.length then D.getD i 0 else 161 + i % 7
def roomT (D : List Nat) (m : Nat) : List Nat := (List.range (D.length + 70)).map fun i => if i < m then (if i < D.length then D.getD i 0 else 161 + i % 7) else 0
theorem room_len (D : List Nat) : (room D).length = D.length + 70 := by simp [room]
theorem roomT_len (D : List Nat) (m : Nat) : (roomT D m).length = D.length + 70 := by simp [roomT]
theorem room_at (D : List Nat) (j : Nat) (hj : j < D.length + 70) : (room D).getD j 0 = if j < D.length then D.getD j 0 else 161 + j % 7 := by
  simp only [room, List.getD, List.getElem?_map, List.getElem?_range hj, Option.map_some, Option.getD_some]
theorem roomT_at (D : List Nat) (m j : Nat) (hj : j < D.length + 70) : (roomT D m).getD j 0 = if j < m then (if j < D.length then D.getD j 0 else 161 + j % 7) else 0 := by
  simp only [roomT, List.getD, List.getElem?_map, List.getElem?_range hj, Option.map_some, Option.getD_some]
theorem room_bd (D : List Nat) (h : ∀ x ∈ D, x < 256) : ∀ x ∈ room D, x < 256 := fun x hx => by
  simp only [room, List.mem_map] at hx
  obtain ⟨i, _, rfl⟩ := hx
  split
  · exact (Bs.mk rfl h).at i
  · omega
theorem roomT_zero (D : List Nat) : roomT D 0 = List.replicate (D.length + 70) 0 := by
  apply list_ext (by simp [roomT_len])
  intro j hj
  rw [roomT_len] at hj
  rw [roomT_at _ _ _ hj, rep_at]; simp
theorem roomT_full (D : List Nat) : roomT D (D.length + 70) = room D := by
  apply list_ext (by simp [roomT_len, room_len])
  intro j hj
  rw [roomT_len] at hj
  rw [roomT_at _ _ _ hj, room_at _ _ hj, if_pos hj]
theorem roomT_set (D : List Nat) (m v : Nat) (hm : m < D.length + 70) (hv : v = if m < D.length then D.getD m 0 else 161 + m % 7) : (roomT D m).set m v = roomT D (m + 1) := by
  apply list_ext (by simp [roomT_len])
  intro p hp
  simp only [List.length_set, roomT_len] at hp
  by_cases e : p = m
  · subst e
    rw [getD_set_eq _ _ _ (by rw [roomT_len]; exact hp), roomT_at _ _ _ hp, if_pos (by omega), hv]
  · rw [getD_set_ne _ _ _ _ (fun h => e h.symm), roomT_at _ _ _ hp, roomT_at _ _ _ hp]
    by_cases h : p < m
    · simp only [h, show p < m + 1 by omega, if_true]
    · simp only [h, show ¬ p < m + 1 by omega, if_false]
theorem infoBt : (Try.prog.info? 5).map (fun i => (i.zero, i.size, i.bytes)) = some (some (.int .u8 0), 1, 1) := by kernel_rfl
theorem mk_b (n : Nat) (x : Int) (hx : x = (n : Int)) (hn : n ≤ 1000000) (w : World) : (Instr.makeSlice 40 (.int .i64 x) (.int .i64 x)).run Try.prog w = .ok (.slice (some ⟨w.heap.size, 0, none⟩) n n) (w.alloc (.cells (VN .u8 (List.replicate n 0)) 5)) := by
  subst hx
  obtain ⟨i0, hi, hz⟩ := Option.map_eq_some_iff.1 infoBt
  simp only [Prod.mk.injEq] at hz
  obtain ⟨hz0, hz1, hz2⟩ := hz
  have := run_makeSlice (P := Try.prog) w 40 5 i0 (.int .u8 0) Try.underlying40 hi hz0 .i64 .i64 (n : Int) (n : Int) (by omega) (Int.le_refl _) (by rw [hz1]; omega) (by rw [hz2]; omega) (by omega)
  rw [this, hz1, Int.toNat_natCast]
  congr 3
  apply Array.ext'
  simp [madeCells, Value.cells, VN, VI]
  refine List.eq_replicate_iff.2 ⟨by simp, ?_⟩
  simp
  intro a _
  rw [Nat.mod_one]
  rfl
set_option maxRecDepth 100000 in
set_option maxHeartbeats 4000000 in
theorem roomy_any (a : Option Addr) (cap : Nat) (D : List Nat) (hD : D.length ≤ 131072) (hDb : ∀ x ∈ D, x < 256) (w : World) (h : Rd w (.slice a D.length cap) D) :
    Calls Try.prog 16 #[.slice a D.length cap] w fun e w' => e = .returned (.slice (some ⟨w.heap.size, 0, none⟩) (D.length + 70) (D.length + 70)) ∧ Below w.heap.size w w' ∧ RB w' w.heap.size (room D) 5 (0, 0) := by
  obtain ⟨n, hn⟩ : ∃ n, D.length = n := ⟨_, rfl⟩
  have HR : Hid (Rd w (.slice a D.length cap) D) := h
  rw [hn]
  have hn1 : n ≤ 131072 := by omega
  obtain ⟨g, hg⟩ : ∃ g, w.heap.size = g := ⟨_, rfl⟩
  have hmk := mk_b (n + 70) ((n : Int) + 70) (by omega) (by omega) w
  obtain ⟨W, hW⟩ : ∃ W, w.alloc (.cells (VN .u8 (List.replicate (n + 70) 0)) 5) = W := ⟨_, rfl⟩
  rw [hW, hg] at hmk
  have HST : Hid (Below g w W ∧ RB W g (roomT D 0) 5 (0, 0)) := by
    show Below g w W ∧ RB W g (roomT D 0) 5 (0, 0)
    rw [roomT_zero, hn, ← hW, ← hg]
    exact ⟨(Below.refl _ _).alloc (Nat.le_refl _) _, by rw [heap_alloc_any, if_pos rfl], .inl rfl, rep_bd _⟩
  have HG : Hid (w.heap.size = g) := hg
  have HSt : Hid (∀ i v w', i < n + 70 → v = (if i < n then D.getD i 0 else 161 + i % 7) → v < 256 → Below g w w' ∧ RB w' g (roomT D i) 5 (0, 0) → Below g w (w'.setCell ⟨g, i, none⟩ (.int .u8 (v : Int))) ∧ RB (w'.setCell ⟨g, i, none⟩ (.int .u8 (v : Int))) g (roomT D (i + 1)) 5 (0, 0)) := fun i v w' hi hv hv2 h => by
    have r := h.2.set i v hv2
    rw [roomT_set D i v (by omega) (by rw [hn]; exact hv)] at r
    exact ⟨h.1.setCell (Nat.le_refl _) _, r⟩
  have HDb : Hid (∀ i, D.getD i 0 < 256) := fun i => (Bs.mk rfl hDb).at i
  have HRD : Hid (∀ i w', i < n → Below g w w' → ∃ b o, a = some ⟨b, o, none⟩ ∧ b ≠ g ∧ w'.cell? ⟨b, o + i, none⟩ = some (.int .u8 ((D.getD i 0 : Nat) : Int))) := fun i w' hi hb => by
    obtain ⟨a', cap', e, _, hh⟩ := HR.out
    injection e with e1 e2 e3
    subst e1
    rcases hh with hh | ⟨b, o, rfl, hh⟩
    · rw [hh] at hn; simp at hn; omega
    · have c := hh i (by omega)
      have hlt := cell_lt c
      refine ⟨b, o, rfl, by omega, ?_⟩
      rw [World.cell?_of_block (a := ⟨b, o + i, none⟩) (hb.block b (by omega))]
      exact c
  have HFU : Hid (roomT D (n + 70) = room D) := by rw [← hn]; exact roomT_full D
  clear h hD hDb hW HR
  go_enter Try.func16, Try.ntmps16
  go_wp2
  go_loopw [4] (fun v w' => ∃ i : Nat, i ≤ n + 70 ∧ v = .int .i64 i ∧ Below g w w' ∧ RB w' g (roomT D i) 5 (0, 0)) (fun v _ => n + 70 - (intOf v).toNat)
  case atStart => exact ⟨0, by omega, rfl, HST.out⟩
  case round =>
    clear HST hmk
    obtain ⟨i, hi, rfl, hp⟩ := hrel
    by_cases hlt : i < n + 70
    · have b1 : (i : Int) < (n : Int) + 70 := by omega
      have c1 := hp.2.cell (i := i) (by rw [roomT_len, hn]; omega)
      have f1 := hp.2.froz (j := i) (by rw [roomT_len, hn]; omega)
      generalize (roomT D i).getD i 0 = y at c1
      have HP : Hid _ := hp
      clear hp
      by_cases hin : i < n
      · have b2 : (i : Int) < (n : Int) := by omega
        obtain ⟨b, o, rfl, hbg, cb⟩ := HRD.out i _ hin HP.out.1
        have hv := HDb.out i
        have HN : Hid (Below g w ((wr.setCell ⟨g, i, none⟩ (.int .u8 (161 + (i : Int) % 7))).setCell ⟨g, i, none⟩ (.int .u8 ((D.getD i 0 : Nat) : Int))) ∧ RB ((wr.setCell ⟨g, i, none⟩ (.int .u8 (161 + (i : Int) % 7))).setCell ⟨g, i, none⟩ (.int .u8 ((D.getD i 0 : Nat) : Int))) g (roomT D (i + 1)) 5 (0, 0)) := by
          have r := (HP.out.2.set i (161 + i % 7) (by omega)).set i (D.getD i 0) hv
          rw [List.set_set, roomT_set D i (D.getD i 0) (by omega) (by rw [hn, if_pos hin]), show ((161 + i % 7 : Nat) : Int) = 161 + (i : Int) % 7 by omega] at r
          exact ⟨(HP.out.1.setCell (Nat.le_refl _) _).setCell (Nat.le_refl _) _, r⟩
        have cb1 : (wr.setCell ⟨g, i, none⟩ (.int .u8 (161 + (i : Int) % 7))).cell? ⟨b, o + i, none⟩ = some (.int .u8 ((D.getD i 0 : Nat) : Int)) := by
          rw [World.cell?_setCell_other _ _ _ _ (by first | (simp; done) | (simp; intro e; exact absurd e.symm hbg) | (intro e; injection e with e1; exact hbg e1.symm))]; exact cb
        have cg1 : (wr.setCell ⟨g, i, none⟩ (.int .u8 (161 + (i : Int) % 7))).cell? ⟨g, i, none⟩ = some (.int .u8 (161 + (i : Int) % 7)) := World.cell?_setCell_same _ _ _ c1
        have fg1 : (wr.setCell ⟨g, i, none⟩ (.int .u8 (161 + (i : Int) % 7))).frozen? ⟨g, i, none⟩ = false := by rw [World.frozen?_setCell]; exact f1
        generalize D.getD i 0 = z at *
        obtain ⟨W1, hW1⟩ : ∃ W, wr.setCell ⟨g, i, none⟩ (.int .u8 (161 + (i : Int) % 7)) = W := ⟨_, rfl⟩
        rw [hW1] at HN cb1 cg1 fg1
        clear HSt HDb HRD HFU HP cb
        go_wp2
        go_roundw
        case rel => exact ⟨i + 1, by omega, by go_num, HN.out⟩
        case measure => simp [intOf]; omega
      · have b2 : ¬ (i : Int) < (n : Int) := by omega
        have HN : Hid (Below g w (wr.setCell ⟨g, i, none⟩ (.int .u8 (161 + (i : Int) % 7))) ∧ RB (wr.setCell ⟨g, i, none⟩ (.int .u8 (161 + (i : Int) % 7))) g (roomT D (i + 1)) 5 (0, 0)) := by
          have r := HSt.out i (161 + i % 7) wr hlt (by rw [if_neg hin]) (by omega) HP.out
          rw [show ((161 + i % 7 : Nat) : Int) = 161 + (i : Int) % 7 by omega] at r
          exact r
        clear HSt HDb HRD HFU HP
        go_wp2
        go_roundw
        case rel => exact ⟨i + 1, by omega, by go_num, HN.out⟩
        case measure => simp [intOf]; omega
    · have hi' : i = n + 70 := by omega
      rw [hi', HFU.out] at hp
      have HP : Hid _ := hp
      clear hp HSt HDb HRD HFU hi'
      go_wp2
      go_ret
      exact ⟨by rw [HG.out]; rfl, by rw [HG.out]; exact HP.out⟩
set_option maxRecDepth 100000 in
set_option maxHeartbeats 4000000 in
theorem same_any (va vb : Value) (D : List Nat) (hD : D.length ≤ 1000000) (w : World) (ha : Rd w va D) (hb : Rd w vb D) :
    Calls Try.prog 20 #[va, vb] w fun e w' => e = .returned (.bool true) ∧ Below w.heap.size w w' := by
  obtain ⟨a, ca, rfl, _, ha⟩ := ha
  obtain ⟨b, cb, rfl, _, hb⟩ := hb
  obtain ⟨n, hn⟩ : ∃ n, D.length = n := ⟨_, rfl⟩
  rw [hn] at ha hb hD ⊢
  have HA : Hid (∀ i w', i < n → Below w.heap.size w w' → ∃ g o, a = some ⟨g, o, none⟩ ∧ w'.cell? ⟨g, o + i, none⟩ = some (.int .u8 ((D.getD i 0 : Nat) : Int))) := fun i w' hi hbw => by
    rcases ha with e | ⟨g, o, rfl, hc⟩
    · rw [e] at hn; simp at hn; omega
    · refine ⟨g, o, rfl, ?_⟩
      have c := hc i hi
      rw [World.cell?_of_block (a := ⟨g, o + i, none⟩) (hbw.block g (cell_lt c))]; exact c
  have HB : Hid (∀ i w', i < n → Below w.heap.size w w' → ∃ g o, b = some ⟨g, o, none⟩ ∧ w'.cell? ⟨g, o + i, none⟩ = some (.int .u8 ((D.getD i 0 : Nat) : Int))) := fun i w' hi hbw => by
    rcases hb with e | ⟨g, o, rfl, hc⟩
    · rw [e] at hn; simp at hn; omega
    · refine ⟨g, o, rfl, ?_⟩
      have c := hc i hi
      rw [World.cell?_of_block (a := ⟨g, o + i, none⟩) (hbw.block g (cell_lt c))]; exact c
  clear ha hb hn
  go_enter Try.func20, Try.ntmps20
  go_wp2
  go_loopw [5] (fun v w' => ∃ i : Nat, i ≤ n ∧ v = .int .i64 i ∧ Below w.heap.size w w') (fun v _ => n - (intOf v).toNat)
  case atStart => exact ⟨0, by omega, rfl, Below.refl _ _⟩
  case round =>
    obtain ⟨i, hi, rfl, hp⟩ := hrel
    by_cases hlt : i < n
    · obtain ⟨g, o, rfl, c1⟩ := HA.out i wr hlt hp
      obtain ⟨g', o', rfl, c2⟩ := HB.out i wr hlt hp
      have b1 : (i : Int) < (n : Int) := by omega
      generalize D.getD i 0 = z at *
      have HP : Hid (Below w.heap.size w wr) := hp
      clear HA HB hp
      go_wp2
      go_quiet (fail)
      go_wp2
      go_roundw
      case rel => exact ⟨i + 1, by omega, by go_num, below_drewN' HP.out _⟩
      case measure => simp [intOf]; omega
    · have b1 : ¬ (i : Int) < (n : Int) := by omega
      have HP : Hid (Below w.heap.size w wr) := hp
      clear HA HB hp
      go_wp2
      go_ret
      exact ⟨rfl, HP.out⟩
set_option maxRecDepth 100000 in
set_option maxHeartbeats 4000000 in
theorem behind_any (g n len cap : Nat) (L : List Nat) (hL : len = L.length) (hlen : len ≤ 1000000) (hn : n ≤ len) (T : TypeId) (fr : Nat × Nat) (w : World) (h : RB w g L T fr) (hm : ∀ j, n ≤ j → j < len → L.getD j 0 = 161 + j % 7) :
    Calls Try.prog 21 #[.slice (some ⟨g, 0, none⟩) len cap, .int .i64 (n : Int)] w fun e w' => e = .returned (.bool true) ∧ Below w.heap.size w w' := by
  have HC : Hid (∀ j w', n ≤ j → j < len → Below w.heap.size w w' → w'.cell? ⟨g, j, none⟩ = some (.int .u8 ((161 + j % 7 : Nat) : Int))) := fun j w' h1 h2 hb => by
    have r := h.below hb
    have c := r.cell (i := j) (by omega)
    rw [hm j h1 h2] at c
    exact c
  clear h hm hL
  go_enter Try.func21, Try.ntmps21
  go_wp2
  go_loopw [5] (fun v w' => ∃ i : Nat, n ≤ i ∧ i ≤ len ∧ v = .int .i64 i ∧ Below w.heap.size w w') (fun v _ => len - (intOf v).toNat)
  case atStart => exact ⟨n, by omega, hn, rfl, Below.refl _ _⟩
  case round =>
    obtain ⟨i, hi, hi2, rfl, hp⟩ := hrel
    by_cases hlt : i < len
    · have c1 := HC.out i wr hi hlt hp
      rw [show ((161 + i % 7 : Nat) : Int) = 161 + (i : Int) % 7 by omega] at c1
      have b1 : (i : Int) < (len : Int) := by omega
      have HP : Hid (Below w.heap.size w wr) := hp
      clear HC hp
      go_wp2
      go_roundw
      case rel => exact ⟨i + 1, by omega, by omega, by go_num, HP.out⟩
      case measure => simp [intOf]; omega
    · have b1 : ¬ (i : Int) < (len : Int) := by omega
      have HP : Hid (Below w.heap.size w wr) := hp
      clear HC hp
      go_wp2
      go_ret
      exact ⟨rfl, HP.out⟩
end Go.Proofs.Ytefnlaookmpbhaa
