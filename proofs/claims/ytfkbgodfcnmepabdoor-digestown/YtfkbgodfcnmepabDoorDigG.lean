import Derived.Test.YtfkbgodfcnmepabDoorDigF
namespace Go.Proofs.YtfkbgodfcnmepabDoor
set_option linter.unusedSimpArgs false
set_option linter.unusedVariables false
open Go.ChangeShapes Go.WideShapes Go.ChangeAt Go.RowKit Go.Pin Go.Str Go.Dig
/-- a box of bytes -/
abbrev RY (w : World) (g : Nat) (L : List Int) (T : TypeId) : Prop := w.heap[g]? = some (.cells (VI .u8 L) T (0, 0))
theorem RY.cell {w : World} {g : Nat} {L : List Int} {T : TypeId} (h : RY w g L T) {i : Nat} (hi : i < L.length) : w.cell? ⟨g, i, none⟩ = some (.int .u8 (L.getD i 0)) := by
  rw [cell_of_row _ _ _ _ _ _ h, VI_at _ _ _ hi]
theorem RY.froz {w : World} {g : Nat} {L : List Int} {T : TypeId} (h : RY w g L T) (i : Nat) : w.frozen? ⟨g, i, none⟩ = false := frozen_of_row w _ _ _ _ h
theorem RY.set {w : World} {g : Nat} {L : List Int} {T : TypeId} (h : RY w g L T) (i : Nat) (v : Int) : RY (w.setCell ⟨g, i, none⟩ (.int .u8 v)) g (L.set i v) T := by
  unfold RY at h ⊢
  rw [heap_setCell_same w _ _ _ _ _ h]
  simp [VI, List.map_set]
theorem RY.other {w : World} {g : Nat} {L : List Int} {T : TypeId} (h : RY w g L T) {g' : Nat} (hn : g ≠ g') (i : Nat) (v : Value) : RY (w.setCell ⟨g', i, none⟩ v) g L T := (heap_setCell_other _ _ _ _ hn).trans h
def z32i : List Int := List.replicate 32 0
theorem info32 : (Tryd.prog.info? 39).map (·.size) = some 32 := by kernel_rfl
/-- the bytes of the words up to m -/
def splT (h : List Nat) (m : Nat) : List Int := (List.range 32).map fun j => if j < m then ((bt h j : Nat) : Int) else 0
theorem splT_len (h : List Nat) (m : Nat) : (splT h m).length = 32 := by simp [splT]
theorem splT_zero (h : List Nat) : splT h 0 = z32i := by
  apply List.ext_getElem (by simp [splT, z32i])
  intro j h1 h2
  simp only [splT, z32i, List.getElem_map, List.getElem_range, List.getElem_replicate]
  rw [if_neg (by omega)]
theorem splT_full (h : List Nat) : splT h 32 = spl h 32 := by
  apply List.ext_getElem (by simp [splT, spl])
  intro j h1 h2
  simp only [splT, spl, List.getElem_map, List.getElem_range]
  rw [splT_len] at h1
  rw [if_pos h1]
theorem splT_set (h : List Nat) {i : Nat} (hi : i < 32) {v : Int} (hv : v = ((bt h i : Nat) : Int)) : (splT h i).set i v = splT h (i + 1) := by
  subst hv
  apply List.ext_getElem (by simp [splT])
  intro j h1 h2
  rw [List.getElem_set]
  simp only [splT, List.getElem_map, List.getElem_range]
  by_cases e : i = j
  · subst e; simp
  · rw [if_neg e]
    by_cases h : j < i
    · rw [if_pos h, if_pos (by omega)]
    · rw [if_neg h, if_neg (by omega)]
theorem bt_at (ws : List Nat) (i j : Nat) (hj : j < 4) : bt ws (4 * i + j) = ws.getD i 0 / 256 ^ j % 256 := by
  unfold bt; rw [show (4 * i + j) / 4 = i by omega, show (4 * i + j) % 4 = j by omega]
/-- spell's two boxes -/
structure SD (n : Nat) (w : World) (L : List Int) (wr : World) : Prop where
  old : Below n w wr
  sz : n + 2 ≤ wr.heap.size
  hr : RY wr n z32i 39
  hs : RY wr (n + 1) L 39
theorem SD.set {n : Nat} {w wr : World} {L : List Int} (h : SD n w L wr) (i : Nat) (v : Int) : SD n w (L.set i v) (wr.setCell ⟨n + 1, i, none⟩ (.int .u8 v)) :=
  ⟨h.old.setCell (Nat.le_succ n) _, by simp only [World.setCell, Array.size_modify]; exact h.sz, h.hr.other (by omega) _ _, h.hs.set _ _⟩
theorem SD.drew {n : Nat} {w wr : World} {L : List Int} (h : SD n w L wr) : SD n w L wr.drew := ⟨h.old.drew, h.sz, h.hr, h.hs⟩
theorem sd_start (w : World) : SD w.heap.size w z32i ((w.alloc (.cells (VI .u8 z32i) 39)).alloc (.cells (VI .u8 z32i) 39)) := by
  refine ⟨((Below.refl _ _).alloc (Nat.le_refl _) _).alloc (by simp) _, by simp [size_alloc], ?_, ?_⟩
  · simp only [RY, heap_alloc_any, size_alloc]
    rw [if_neg (by omega), if_pos trivial]
  · simp only [RY, heap_alloc_any, size_alloc]
    rw [if_pos trivial]
set_option maxRecDepth 100000 in
set_option maxHeartbeats 4000000 in
theorem spell_any (gs os : Nat) (h : List Nat) (hh : S8 h) (w : World) (hc : ∀ i, i < 8 → w.cell? ⟨gs, os + i, none⟩ = some (.int .u32 ((h.getD i 0 : Nat) : Int))) :
    Calls Tryd.prog 20 #[.pointer (some ⟨gs, os, none⟩)] w fun e w' => e = .returned (.agg (VI .u8 (spl h 32))) ∧ Below w.heap.size w w' := by
  have hst := sd_start w
  obtain ⟨n, hn⟩ : ∃ n, w.heap.size = n := ⟨_, rfl⟩
  have hgb : gs < n := by rw [← hn]; exact World.block_lt_of_cell? w _ (hc 0 (by decide))
  obtain ⟨W, hW⟩ : ∃ W, (w.alloc (.cells (VI .u8 z32i) 39)).alloc (.cells (VI .u8 z32i) 39) = W := ⟨_, rfl⟩
  rw [hW, hn, ← splT_zero h] at hst
  have hW' : (w.alloc (.cells #[.int .u8 0, .int .u8 0, .int .u8 0, .int .u8 0, .int .u8 0, .int .u8 0, .int .u8 0, .int .u8 0, .int .u8 0, .int .u8 0, .int .u8 0, .int .u8 0, .int .u8 0, .int .u8 0, .int .u8 0, .int .u8 0, .int .u8 0, .int .u8 0, .int .u8 0, .int .u8 0, .int .u8 0, .int .u8 0, .int .u8 0, .int .u8 0, .int .u8 0, .int .u8 0, .int .u8 0, .int .u8 0, .int .u8 0, .int .u8 0, .int .u8 0, .int .u8 0] 39)).alloc (.cells #[.int .u8 0, .int .u8 0, .int .u8 0, .int .u8 0, .int .u8 0, .int .u8 0, .int .u8 0, .int .u8 0, .int .u8 0, .int .u8 0, .int .u8 0, .int .u8 0, .int .u8 0, .int .u8 0, .int .u8 0, .int .u8 0, .int .u8 0, .int .u8 0, .int .u8 0, .int .u8 0, .int .u8 0, .int .u8 0, .int .u8 0, .int .u8 0, .int .u8 0, .int .u8 0, .int .u8 0, .int .u8 0, .int .u8 0, .int .u8 0, .int .u8 0, .int .u8 0] 39) = W := hW
  have HST : Hid (SD n w (splT h 0) W) := hst
  have HC : Hid (∀ i Y, i < 8 → Below n w Y → Y.cell? ⟨gs, os + i, none⟩ = some (.int .u32 ((h.getD i 0 : Nat) : Int))) := fun i Y hi hY => by
    rw [World.cell?_of_block (a := ⟨gs, os + i, none⟩) (hY.block gs hgb)]; exact hc i hi
  have HBY : Hid (S8 h) := hh
  rw [hn]
  clear hst hW hc hh hgb
  go_enter Tryd.func20, Tryd.ntmps20
  go_wp2
  go_loopw [8] (fun v w' => ∃ i : Nat, i ≤ 8 ∧ v = .int .i64 (i : Int) ∧ SD n w (splT h (4 * i)) w') (fun v _ => 8 - (intOf v).toNat)
  case atStart => exact ⟨0, Nat.zero_le _, rfl, HST.out⟩
  case round =>
    clear HST hW'
    obtain ⟨i, hi, rfl, hp⟩ := hrel
    by_cases hlt : i < 8
    · have b1 : (i : Int) < 8 := by omega
      have k0 := HC.out i wr hlt hp.old
      have hx := HBY.out.bd.at i
      have q0 := bt_at h i 0 (by decide)
      have q1 := bt_at h i 1 (by decide)
      have q2 := bt_at h i 2 (by decide)
      have q3 := bt_at h i 3 (by decide)
      simp only [Nat.pow_zero, Nat.div_one, Nat.pow_one, show (256 : Nat) ^ 2 = 65536 from rfl, show (256 : Nat) ^ 3 = 16777216 from rfl, Nat.add_zero] at q0 q1 q2 q3
      obtain ⟨x, hxe⟩ : ∃ x, h.getD i 0 = x := ⟨_, rfl⟩
      rw [hxe] at k0 hx q0 q1 q2 q3
      have hpc := fun w => run_piece w 39 32 (n + 1) 0 Tryd.underlying39 (4 * (i : Int)) (4 * (i : Int) + 4) (4 * i) (4 * i + 4) (by omega) (by omega) (by omega) (by omega) (by omega)
      rw [show 4 * i + 4 - 4 * i = 4 by omega, Nat.zero_add] at hpc
      obtain ⟨v0, hv0⟩ : ∃ v : Int, ((bt h (4 * i) : Nat) : Int) = v := ⟨_, rfl⟩
      obtain ⟨v1, hv1⟩ : ∃ v : Int, ((bt h (4 * i + 1) : Nat) : Int) = v := ⟨_, rfl⟩
      obtain ⟨v2, hv2⟩ : ∃ v : Int, ((bt h (4 * i + 2) : Nat) : Int) = v := ⟨_, rfl⟩
      obtain ⟨v3, hv3⟩ : ∃ v : Int, ((bt h (4 * i + 3) : Nat) : Int) = v := ⟨_, rfl⟩
      have p0 : (x : Int) % 256 = v0 := by rw [← hv0, q0]; omega
      have p1 : (x : Int) / 256 % 256 = v1 := by rw [← hv1, q1]; omega
      have p2 : (x : Int) / 65536 % 256 = v2 := by rw [← hv2, q2]; omega
      have p3 : (x : Int) / 16777216 = v3 := by rw [← hv3, q3]; omega
      have c0 := hp.hs.cell (i := 4 * i) (by rw [splT_len]; omega)
      have f0 := fun k => hp.hs.froz k
      have hp0 := hp.set (4 * i) v0
      rw [splT_set h (by omega) hv0.symm] at hp0
      obtain ⟨W1, hW1⟩ : ∃ V, wr.setCell ⟨n + 1, 4 * i, none⟩ (.int .u8 v0) = V := ⟨_, rfl⟩
      rw [hW1] at hp0
      have c1 := hp0.hs.cell (i := 4 * i + 1) (by rw [splT_len]; omega)
      have f1 := fun k => hp0.hs.froz k
      have hp1 := hp0.set (4 * i + 1) v1
      rw [splT_set h (by omega) hv1.symm] at hp1
      obtain ⟨W2, hW2⟩ : ∃ V, W1.setCell ⟨n + 1, 4 * i + 1, none⟩ (.int .u8 v1) = V := ⟨_, rfl⟩
      rw [hW2] at hp1
      have c2 := hp1.hs.cell (i := 4 * i + 1 + 1) (by rw [splT_len]; omega)
      have f2 := fun k => hp1.hs.froz k
      have hp2 := hp1.set (4 * i + 1 + 1) v2
      rw [splT_set h (by omega) hv2.symm] at hp2
      obtain ⟨W3, hW3⟩ : ∃ V, W2.setCell ⟨n + 1, 4 * i + 2, none⟩ (.int .u8 v2) = V := ⟨_, rfl⟩
      rw [show 4 * i + 1 + 1 = 4 * i + 2 by omega] at c2 hp2
      rw [hW3] at hp2
      have c3 := hp2.hs.cell (i := 4 * i + 2 + 1) (by rw [splT_len]; omega)
      have f3 := fun k => hp2.hs.froz k
      have hp3 := hp2.set (4 * i + 2 + 1) v3
      rw [splT_set h (by omega) hv3.symm] at hp3
      rw [show 4 * i + 2 + 1 = 4 * i + 3 by omega] at c3 hp3
      obtain ⟨W4, hW4⟩ : ∃ V, W3.setCell ⟨n + 1, 4 * i + 3, none⟩ (.int .u8 v3) = V := ⟨_, rfl⟩
      rw [hW4, show 4 * i + 3 + 1 = 4 * (i + 1) by omega] at hp3
      have HP1 : Hid (SD n w (splT h (4 * (i + 1))) W4) := hp3
      have r4 := fun w a cap => run_four w a cap
      clear hp hp0 hp1 hp2 hp3 hv0 hv1 hv2 hv3 q0 q1 q2 q3 hxe
      go_upto_region 4 with fail
      go_region
      go_wp2
      exact ⟨⟨i + 1, hlt, by go_num, HP1.out.drew⟩, by simp [intOf]; omega⟩
    · have hi' : i = 8 := by omega
      subst hi'
      rw [show 4 * 8 = 32 from rfl, splT_full] at hp
      have HP : Hid (SD n w (spl h 32) wr) := hp
      have HIB : Hid ((Tryd.prog.info? 39).map (·.size) = some (VI .u8 (spl h 32)).size) := by
        have : (Tryd.prog.info? 39).map (·.size) = some (VI .u8 (spl h 32)).size := by rw [VI_size, spl_len]; exact info32
        exact this
      have HSB : Hid ((VI .u8 z32i).size = (VI .u8 (spl h 32)).size) := by
        have : (VI .u8 z32i).size = (VI .u8 (spl h 32)).size := by rw [VI_size, VI_size, spl_len]; rfl
        exact this
      clear hp hlt hi
      go_wp2_with (with_reducible refine at_list ?_; first | (refine wpList_load_row rfl 39 (.tmp 3) rfl (n + 1) rfl 39 (VI .u8 (spl h 32)) (0, 0) _ HP.out.hs Tryd.underlying39 rfl HIB.out ?_) | (refine wpList_store_row rfl 39 (.tmp 2) (.tmp 45) rfl n (VI .u8 (spl h 32)) rfl rfl 39 (VI .u8 z32i) HP.out.hr HIB.out HSB.out (VI_one _ _) ?_))
      refine bodyPost_ret (v := .agg (VI .u8 (spl h 32))) ?_ rfl ⟨rfl, below_setRow HP.out.old _ (Nat.le_refl _) _⟩
      exact results_cell_row (P := Tryd.prog) (fn := Tryd.f20) (p := 2) (ty := 39) rfl _ _ n 39 (VI .u8 (spl h 32)) (0, 0) _ rfl (setRow_heap _ _ _ _ 39 _ HP.out.hr) Tryd.underlying39 rfl HIB.out
end Go.Proofs.YtfkbgodfcnmepabDoor
