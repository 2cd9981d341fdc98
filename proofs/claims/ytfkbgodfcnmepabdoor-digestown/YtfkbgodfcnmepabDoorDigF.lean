import Derived.Test.YtfkbgodfcnmepabDoorDigC
import Derived.BigRegion
import Derived.BigQuiet
namespace Go.Proofs.YtfkbgodfcnmepabDoor
set_option linter.unusedSimpArgs false
set_option linter.unusedVariables false
open Go.ChangeShapes Go.WideShapes Go.ChangeAt Go.RowKit Go.Pin Go.Str Go.Dig
theorem or_word (x0 x1 x2 x3 : Nat) (r0 : x0 < 256) (r1 : x1 < 256) (r2 : x2 < 256) (r3 : x3 < 256) :
    bits .or .u32 (bits .or .u32 (bits .or .u32 (x0 : Int) ((x1 : Int) * 256)) ((x2 : Int) * 65536)) ((x3 : Int) * 16777216) = ((x0 + 256 * x1 + 65536 * x2 + 16777216 * x3 : Nat) : Int) := by
  have e1 : bits .or .u32 (x0 : Int) ((x1 : Int) * 256) = ((x0 + 256 * x1 : Nat) : Int) := by
    rw [show ((x1 : Int) * 256) = ((x1 * 256 : Nat) : Int) by omega, u32_or_nat _ _ (by omega) (by omega), Nat.or_comm, nat_join 8 (x1 * 256) x0 (by omega) (by omega)]; congr 1; omega
  have e2 : bits .or .u32 ((x0 + 256 * x1 : Nat) : Int) ((x2 : Int) * 65536) = ((x0 + 256 * x1 + 65536 * x2 : Nat) : Int) := by
    rw [show ((x2 : Int) * 65536) = ((x2 * 65536 : Nat) : Int) by omega, u32_or_nat _ _ (by omega) (by omega), Nat.or_comm, nat_join 16 (x2 * 65536) _ (by omega) (by omega)]; congr 1; omega
  rw [e1, e2, show ((x3 : Int) * 16777216) = ((x3 * 16777216 : Nat) : Int) by omega, u32_or_nat _ _ (by omega) (by omega), Nat.or_comm, nat_join 24 (x3 * 16777216) _ (by omega) (by omega)]
  congr 1; omega
theorem size_u8 (w : World) : (sizeOf 5).run Tryd.prog w = .ok 1 w := by kernel_rfl
/-- a piece of an array that a pointer shows -/
theorem run_piece (w : World) (t : TypeId) (N g o : Nat) (ht : Tryd.prog.underlying t = some (.array N 5)) (a b : Int) (l h : Nat) (ha : a = (l : Int)) (hb : b = (h : Int)) (hlh : l ≤ h) (hN : h ≤ N) (hlt : l < N) :
    (Instr.sliceAt t (.pointer (some ⟨g, o, none⟩)) (some (.int .i64 a)) (some (.int .i64 b)) none).run Tryd.prog w = .ok (.slice (some ⟨g, o + l, none⟩) (h - l) (N - l)) w := by
  subst ha; subst hb
  have e1 : ¬ N = l := by omega
  have e2 : (⟨g, o, none⟩ : Addr).add l = ⟨g, o + l, none⟩ := add_mid g o l
  have h1 : ((l : Nat) : Int) ≤ (h : Int) := by omega
  have h2 : ((h : Nat) : Int) ≤ (N : Int) := by omega
  simp [Instr.sliceAt, Instr.sureAddr, run_underlying ht, Instr.sliceBounds, run_sliceBound, size_u8, e1, e2, h1, h2, hlh, hN]
theorem run_four (w : World) (a : Option Addr) (cap : Nat) : (Instr.arrayAt 104 (.slice a 4 cap)).run Tryd.prog w = .ok (.pointer a) w := by
  simp [Instr.arrayAt, run_underlying Tryd.underlying104]
theorem infoS : (Tryd.prog.info? 73).map (·.size) = some 16 := by kernel_rfl
def z16n : List Nat := List.replicate 16 0
/-- the words up to i -/
def wdT (b : List Int) (i : Nat) : List Nat := (List.range 16).map fun j => if j < i then wdi b j else 0
theorem wdT_len (b : List Int) (i : Nat) : (wdT b i).length = 16 := by simp [wdT]
theorem wdT_zero (b : List Int) : wdT b 0 = z16n := by
  apply List.ext_getElem (by simp [wdT, z16n])
  intro j h1 h2
  simp only [wdT, z16n, List.getElem_map, List.getElem_range, List.getElem_replicate]
  rw [if_neg (by omega)]
theorem wdT_full (b : List Int) : wdT b 16 = wds b := by
  apply List.ext_getElem (by simp [wdT, wds])
  intro j h1 h2
  simp only [wdT, wds, List.getElem_map, List.getElem_range]
  rw [wdT_len] at h1
  rw [if_pos h1]
theorem wdT_set (b : List Int) {i : Nat} (hi : i < 16) : (wdT b i).set i (wdi b i) = wdT b (i + 1) := by
  apply List.ext_getElem (by simp [wdT])
  intro j h1 h2
  rw [List.getElem_set]
  simp only [wdT, List.getElem_map, List.getElem_range]
  by_cases e : i = j
  · subst e; simp
  · rw [if_neg e]
    by_cases h : j < i
    · rw [if_pos h, if_pos (by omega)]
    · rw [if_neg h, if_neg (by omega)]
/-- read's two boxes -/
structure RD (n : Nat) (w : World) (L : List Nat) (wr : World) : Prop where
  old : Below n w wr
  sz : n + 2 ≤ wr.heap.size
  hr : RW wr n z16n 73
  hs : RW wr (n + 1) L 73
theorem RW.other {w : World} {g : Nat} {L : List Nat} {T : TypeId} (h : RW w g L T) {g' : Nat} (hn : g ≠ g') (i : Nat) (v : Value) : RW (w.setCell ⟨g', i, none⟩ v) g L T := (heap_setCell_other _ _ _ _ hn).trans h
theorem RD.set {n : Nat} {w wr : World} {L : List Nat} (h : RD n w L wr) (i v : Nat) : RD n w (L.set i v) (wr.setCell ⟨n + 1, i, none⟩ (.int .u32 (v : Int))) :=
  ⟨h.old.setCell (Nat.le_succ n) _, by simp only [World.setCell, Array.size_modify]; exact h.sz, h.hr.other (by omega) _ _, h.hs.set _ _⟩
theorem RD.drew {n : Nat} {w wr : World} {L : List Nat} (h : RD n w L wr) : RD n w L wr.drew := ⟨h.old.drew, h.sz, h.hr, h.hs⟩
theorem rd_start (w : World) : RD w.heap.size w z16n ((w.alloc (.cells (VN .u32 z16n) 73)).alloc (.cells (VN .u32 z16n) 73)) := by
  refine ⟨((Below.refl _ _).alloc (Nat.le_refl _) _).alloc (by simp) _, by simp [size_alloc], ?_, ?_⟩
  · simp only [RW, heap_alloc_any, size_alloc]
    rw [if_neg (by omega), if_pos trivial]
  · simp only [RW, heap_alloc_any, size_alloc]
    rw [if_pos trivial]
set_option maxRecDepth 100000 in
set_option maxHeartbeats 4000000 in
theorem read_any (gb ob : Nat) (b : List Int) (hb : Byb b) (w : World) (hc : ∀ i, i < 64 → w.cell? ⟨gb, ob + i, none⟩ = some (.int .u8 (b.getD i 0))) :
    Calls Tryd.prog 25 #[.pointer (some ⟨gb, ob, none⟩)] w fun e w' => e = .returned (.agg (VN .u32 (wds b))) ∧ Below w.heap.size w w' := by
  have hst := rd_start w
  obtain ⟨n, hn⟩ : ∃ n, w.heap.size = n := ⟨_, rfl⟩
  have hgb : gb < n := by rw [← hn]; exact World.block_lt_of_cell? w _ (hc 0 (by decide))
  obtain ⟨W, hW⟩ : ∃ W, (w.alloc (.cells (VN .u32 z16n) 73)).alloc (.cells (VN .u32 z16n) 73) = W := ⟨_, rfl⟩
  have hW' : (w.alloc (.cells #[.int .u32 0, .int .u32 0, .int .u32 0, .int .u32 0, .int .u32 0, .int .u32 0, .int .u32 0, .int .u32 0, .int .u32 0, .int .u32 0, .int .u32 0, .int .u32 0, .int .u32 0, .int .u32 0, .int .u32 0, .int .u32 0] 73)).alloc (.cells #[.int .u32 0, .int .u32 0, .int .u32 0, .int .u32 0, .int .u32 0, .int .u32 0, .int .u32 0, .int .u32 0, .int .u32 0, .int .u32 0, .int .u32 0, .int .u32 0, .int .u32 0, .int .u32 0, .int .u32 0, .int .u32 0] 73) = W := hW
  rw [hW, hn, ← wdT_zero b] at hst
  have HST : Hid (RD n w (wdT b 0) W) := hst
  have HC : Hid (∀ i Y, i < 64 → Below n w Y → Y.cell? ⟨gb, ob + i, none⟩ = some (.int .u8 (b.getD i 0))) := fun i Y hi hY => by
    rw [World.cell?_of_block (a := ⟨gb, ob + i, none⟩) (hY.block gb hgb)]; exact hc i hi
  have HBY : Hid (Byb b) := hb
  rw [hn]
  have HN : Hid (w.heap.size = n) := hn
  clear hst hW hc hb hgb
  go_enter Tryd.func25, Tryd.ntmps25
  go_wp2
  go_loopw [6] (fun v w' => ∃ i : Nat, i ≤ 16 ∧ v = .int .i64 (i : Int) ∧ RD n w (wdT b i) w') (fun v _ => 16 - (intOf v).toNat)
  case atStart => exact ⟨0, Nat.zero_le _, rfl, HST.out⟩
  case round =>
    clear HST hW'
    obtain ⟨i, hi, rfl, hp⟩ := hrel
    by_cases hlt : i < 16
    · have b1 : (i : Int) < 16 := by omega
      have k0 := HC.out (4 * i) wr (by omega) hp.old
      have k1 := HC.out (4 * i + 1) wr (by omega) hp.old
      have k2 := HC.out (4 * i + 2) wr (by omega) hp.old
      have k3 := HC.out (4 * i + 3) wr (by omega) hp.old
      have y0 := HBY.out.at (4 * i)
      have y1 := HBY.out.at (4 * i + 1)
      have y2 := HBY.out.at (4 * i + 2)
      have y3 := HBY.out.at (4 * i + 3)
      have hw := wdi_int HBY.out i
      obtain ⟨x0, e0⟩ : ∃ x : Nat, b.getD (4 * i) 0 = (x : Int) := ⟨_, (Int.toNat_of_nonneg y0.1).symm⟩
      obtain ⟨x1, e1⟩ : ∃ x : Nat, b.getD (4 * i + 1) 0 = (x : Int) := ⟨_, (Int.toNat_of_nonneg y1.1).symm⟩
      obtain ⟨x2, e2⟩ : ∃ x : Nat, b.getD (4 * i + 2) 0 = (x : Int) := ⟨_, (Int.toNat_of_nonneg y2.1).symm⟩
      obtain ⟨x3, e3⟩ : ∃ x : Nat, b.getD (4 * i + 3) 0 = (x : Int) := ⟨_, (Int.toNat_of_nonneg y3.1).symm⟩
      rw [e0] at k0 y0
      rw [e1] at k1 y1
      rw [e2] at k2 y2
      rw [e3] at k3 y3
      rw [e0, e1, e2, e3] at hw
      have ho := or_word x0 x1 x2 x3 (by omega) (by omega) (by omega) (by omega)
      obtain ⟨y, hy⟩ : ∃ y, wdi b i = y := ⟨_, rfl⟩
      rw [hy] at hw
      rw [show ((x0 + 256 * x1 + 65536 * x2 + 16777216 * x3 : Nat) : Int) = (y : Int) by omega] at ho
      simp only [← Nat.add_assoc] at k1 k2 k3
      have hpc := fun w => run_piece w 49 64 gb ob Tryd.underlying49 (4 * (i : Int)) (4 * (i : Int) + 4) (4 * i) (4 * i + 4) (by omega) (by omega) (by omega) (by omega) (by omega)
      rw [show 4 * i + 4 - 4 * i = 4 by omega] at hpc
      have hp1 := hp.set i y
      have hfr := hp.hs.froz i
      have hcl := hp.hs.cell (i := i) (by rw [wdT_len]; exact hlt)
      obtain ⟨W1, hW1⟩ : ∃ V, wr.setCell ⟨n + 1, i, none⟩ (.int .u32 (y : Int)) = V := ⟨_, rfl⟩
      rw [hW1] at hp1
      have HP1 : Hid (RD n w (wdT b (i + 1)) W1) := by
        have := hp1
        rw [← hy, wdT_set b hlt] at this
        exact this
      have r4 := fun w a cap => run_four w a cap
      obtain ⟨v0, hv0⟩ : ∃ v, (wdT b i).getD i 0 = v := ⟨_, rfl⟩
      rw [hv0] at hcl
      clear hw hy e0 e1 e2 e3 hp hp1 hv0
      go_upto_region 6 with fail
      go_region
      go_wp2
      exact ⟨⟨i + 1, hlt, by go_num, HP1.out.drew⟩, by simp [intOf]; omega⟩
    · have hi' : i = 16 := by omega
      subst hi'
      rw [wdT_full] at hp
      have HP : Hid (RD n w (wds b) wr) := hp
      have HIB : Hid ((Tryd.prog.info? 73).map (·.size) = some (VN .u32 (wds b)).size) := by
        have : (Tryd.prog.info? 73).map (·.size) = some (VN .u32 (wds b)).size := by rw [VN_size, wds_len]; exact infoS
        exact this
      have HSB : Hid ((VN .u32 z16n).size = (VN .u32 (wds b)).size) := by
        have : (VN .u32 z16n).size = (VN .u32 (wds b)).size := by rw [VN_size, VN_size, wds_len]; rfl
        exact this
      clear hp hlt hi
      go_wp2_with (with_reducible refine at_list ?_; first | (refine wpList_load_row rfl 73 (.tmp 3) rfl (n + 1) rfl 73 (VN .u32 (wds b)) (0, 0) _ HP.out.hs Tryd.underlying73 rfl HIB.out ?_) | (refine wpList_store_row rfl 73 (.tmp 2) (.tmp 47) rfl n (VN .u32 (wds b)) rfl rfl 73 (VN .u32 z16n) HP.out.hr HIB.out HSB.out (VN_one _ _) ?_))
      refine bodyPost_ret (v := .agg (VN .u32 (wds b))) ?_ rfl ⟨rfl, below_setRow HP.out.old _ (Nat.le_refl _) _⟩
      exact results_cell_row (P := Tryd.prog) (fn := Tryd.f25) (p := 2) (ty := 73) rfl _ _ n 73 (VN .u32 (wds b)) (0, 0) _ rfl (setRow_heap _ _ _ _ 73 _ HP.out.hr) Tryd.underlying73 rfl HIB.out
end Go.Proofs.YtfkbgodfcnmepabDoor
