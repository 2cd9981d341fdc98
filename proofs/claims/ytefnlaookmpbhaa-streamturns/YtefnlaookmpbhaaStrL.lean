import Derived.Test.YtefnlaookmpbhaaStrK
import Derived.Test.YtefnlaookmpbhaaStrE
import Derived.Test.YtefnlaookmpbhaaTrB
namespace Go.Proofs.Ytefnlaookmpbhaa
set_option linter.unusedSimpArgs false
set_option linter.unusedVariables false
open Go.ChangeShapes Go.WideShapes Go.ChangeAt Go.RowKit Go.Pin Go.Str
theorem bt_at (ws : List Nat) (i j : Nat) (hj : j < 4) : bt ws (4 * i + j) = ws.getD i 0 / 256 ^ j % 256 := by
  unfold bt; rw [show (4 * i + j) / 4 = i by omega, show (4 * i + j) % 4 = j by omega]
theorem xr_step (L : List Nat) (o i : Nat) (ws : List Nat) : xr (xr L o (4 * i) (bt ws)) (o + 4 * i) 4 (fun j => ws.getD i 0 / 256 ^ j % 256) = xr L o (4 * (i + 1)) (bt ws) := by
  rw [show 4 * (i + 1) = 4 * i + 4 by omega, ← xr_app]
  exact xr_congr fun j hj => (bt_at ws i j hj).symm
theorem Grow.refl (S : Nat → Prop) (w : World) : Grow S w w := ⟨rfl, rfl, rfl, Nat.le_refl _, fun _ _ _ => rfl⟩
theorem Grow.of_but {S : Nat → Prop} {w w' : World} (h : But S w w') : Grow S w w' := ⟨h.os, h.tape, h.output, by rw [h.size]; exact Nat.le_refl _, fun k _ hk => h.block k hk⟩
theorem Grow.drew {S : Nat → Prop} {a b : World} (h : Grow S a b) : Grow S a b.drew := ⟨h.os, h.tape, h.output, h.size, h.block⟩
theorem RB.drew {w : World} {g : Nat} {L : List Nat} {T : TypeId} {fr : Nat × Nat} (h : RB w g L T fr) : RB w.drew g L T fr := ⟨h.row, h.ok, h.bd⟩
theorem RB.lt {w : World} {g : Nat} {L : List Nat} {T : TypeId} {fr : Nat × Nat} (h : RB w g L T fr) : g < w.heap.size := (Array.getElem?_eq_some_iff.1 h.row).1
theorem froz_of {w w' : World} {g : Nat} (e : w'.heap[g]? = w.heap[g]?) (j : Nat) : w'.frozen? ⟨g, j, none⟩ = w.frozen? ⟨g, j, none⟩ := by simp [World.frozen?, e]
theorem RB.grow {w w' : World} {g : Nat} {L : List Nat} {T : TypeId} {fr : Nat × Nat} (h : RB w g L T fr) {S : Nat → Prop} (hb : Grow S w w') (hn : ¬ S g) : RB w' g L T fr := by
  have e := hb.block g h.lt hn
  exact ⟨e.trans h.row, h.ok, h.bd⟩
theorem RB.below {w w' : World} {g : Nat} {L : List Nat} {T : TypeId} {fr : Nat × Nat} (h : RB w g L T fr) (hb : Below w.heap.size w w') : RB w' g L T fr := h.grow (Grow.of_below (S := fun _ => False) hb) (fun h => h)
theorem size_u8 (w : World) : (sizeOf 5).run Try.prog w = .ok 1 w := by kernel_rfl
/-- a piece of an array that a pointer shows -/
theorem run_piece (w : World) (t : TypeId) (N g o : Nat) (ht : Try.prog.underlying t = some (.array N 5)) (a b : Int) (l h : Nat) (ha : a = (l : Int)) (hb : b = (h : Int)) (hlh : l ≤ h) (hN : h ≤ N) (hlt : l < N) :
    (Instr.sliceAt t (.pointer (some ⟨g, o, none⟩)) (some (.int .i64 a)) (some (.int .i64 b)) none).run Try.prog w = .ok (.slice (some ⟨g, o + l, none⟩) (h - l) (N - l)) w := by
  subst ha; subst hb
  have e1 : ¬ N = l := by omega
  have e2 : (⟨g, o, none⟩ : Addr).add l = ⟨g, o + l, none⟩ := add_mid g o l
  have h1 : ((l : Nat) : Int) ≤ (h : Int) := by omega
  have h2 : ((h : Nat) : Int) ≤ (N : Int) := by omega
  simp [Instr.sliceAt, Instr.sureAddr, run_underlying ht, Instr.sliceBounds, run_sliceBound, size_u8, e1, e2, h1, h2, hlh, hN]
theorem run_four (w : World) (a : Option Addr) (cap : Nat) : (Instr.arrayAt 116 (.slice a 4 cap)).run Try.prog w = .ok (.pointer a) w := by
  simp [Instr.arrayAt, run_underlying Try.underlying116]
set_option maxRecDepth 100000 in
set_option maxHeartbeats 4000000 in
theorem turnOne_any (g o : Nat) (s : List Nat) (hs : St s) (L : List Nat) (T : TypeId) (fr : Nat × Nat) (w : World) (h : RB w g L T fr) (ho : o + 64 ≤ L.length) :
    Calls Try.prog 27 #[.pointer (some ⟨g, o, none⟩), .agg (VN .u32 s)] w fun e w' => e = .returned (.tuple #[]) ∧ Grow (fun k => k = g) w w' ∧ RB w' g (xr L o 64 (bt (blk s))) T fr := by
  obtain ⟨n, hn⟩ : ∃ n, w.heap.size = n := ⟨_, rfl⟩
  obtain ⟨W0, hW0⟩ : ∃ W, w.alloc (.cells (VN .u32 s) 68) = W := ⟨_, rfl⟩
  have hB0 : Below w.heap.size w W0 := by rw [← hW0]; exact (Below.refl _ _).alloc (Nat.le_refl _) _
  have HP0 : Hid (RW W0 n s 68) := by
    show RW W0 n s _
    rw [← hW0, ← hn]; simp only [RW, heap_alloc_any]; rw [if_pos trivial]
  have HO : Hid (∀ w, Calls Try.prog 40 #[.agg (VN .u32 s)] w fun e w' => e = .returned (.agg (VN .u32 (blk s))) ∧ Below w.heap.size w w') := fun w => one_any s hs w
  have sb := hs.blk
  have HIS : Hid ((Try.prog.info? 68).map (·.size) = some (VN .u32 s).size) := infoWs hs.len
  obtain ⟨bs, hbs⟩ : ∃ x, blk s = x := ⟨_, rfl⟩
  rw [hbs] at HO sb ⊢
  clear hbs
  have HT : Hid (∀ i w', i < 16 → RB w' g (xr L o (4 * i) (bt bs)) T fr → Calls Try.prog 41 #[.pointer (some ⟨g, o + 4 * i, none⟩), .int .u32 ((bs.getD i 0 : Nat) : Int)] w' fun e w'' => e = .returned (.tuple #[]) ∧ But (fun k => k = g) w' w'' ∧ RB w'' g (xr L o (4 * (i + 1)) (bt bs)) T fr) := by
    intro i w' hi h'
    have := turn_any g (o + 4 * i) (bs.getD i 0) (sb.bd.at i) _ T fr w' h' (by rw [xr_len]; omega)
    rw [xr_step] at this
    exact this
  have HX : Hid (∀ (i : Nat) (w : World), i < 16 → (Instr.index 68 (.agg (VN .u32 bs)) (.int .i64 (i : Int))).run Try.prog w = .ok (.int .u32 ((bs.getD i 0 : Nat) : Int)) w) := fun i w hi => run_index_vn w 68 24 .u32 .i64 16 bs i sb.len hi Try.underlying68 Try.underlying24 size_u32
  have HB0 : Hid (Below w.heap.size w W0) := hB0
  have HR : Hid (RB w g L T fr) := h
  have HBB : Hid (W32 bs) := sb.bd
  clear h hB0 ho hs sb
  go_enter Try.func27, Try.ntmps27
  go_wp2_with (first | (go_at_call 40; refine (HO.out W0).mono ?_; rintro e w1 ⟨rfl, hb1⟩) | (with_reducible refine at_list ?_; first | (refine wpList_load_row rfl 68 (.tmp 3) rfl n rfl 68 (VN .u32 s) (0, 0) _ HP0.out Try.underlying68 rfl HIS.out ?_)))
  have HG1 : Hid (Grow (fun k => k = g) w w1 ∧ RB w1 g (xr L o (4 * 0) (bt bs)) T fr) := by
    have hg : Below w.heap.size w w1 := HB0.out.trans (hb1.mono (HB0.out.size))
    show Grow (fun k => k = g) w w1 ∧ RB w1 g (xr L o (4 * 0) (bt bs)) T fr
    rw [xr_zero]
    exact ⟨Grow.of_below hg, HR.out.below hg⟩
  clear hb1 hW0 HP0 HO HIS HB0 HR
  go_loopw [8] (fun v w' => ∃ i : Nat, i ≤ 16 ∧ v = .int .i64 i ∧ Grow (fun k => k = g) w w' ∧ RB w' g (xr L o (4 * i) (bt bs)) T fr) (fun v _ => 16 - (intOf v).toNat)
  case atStart => exact ⟨0, Nat.zero_le _, rfl, HG1.out⟩
  case round =>
    clear HG1
    obtain ⟨i, hi, rfl, hg, hr⟩ := hrel
    by_cases hlt : i < 16
    · have hix := HX.out i wr hlt
      have HC : Hid _ := HT.out i wr hlt hr
      have b1 : (i : Int) < 16 := by omega
      have x1 := HBB.out.at i
      generalize bs.getD i 0 = xw at *
      have HG : Hid (Grow (fun k => k = g) w wr) := hg
      have hsl := run_piece wr 29 64 g o Try.underlying29 (4 * (i : Int)) (4 * (i : Int) + 4) (4 * i) (4 * i + 4) (by omega) (by omega) (by omega) (by omega) (by omega)
      rw [show 4 * i + 4 - 4 * i = 4 by omega] at hsl
      have hat := run_four wr (some ⟨g, o + 4 * i, none⟩) (64 - 4 * i)
      clear hg hr
      go_wp2_with (first | (go_at_call 41; refine Calls.mono HC.out ?_; rintro e w2 ⟨rfl, hb2, hr2⟩))
      have HN : Hid (Grow (fun k => k = g) w w2 ∧ RB w2 g (xr L o (4 * (i + 1)) (bt bs)) T fr) := ⟨HG.out.trans (Grow.of_but hb2), hr2⟩
      clear hb2 hr2
      go_wp2
      go_roundw
      case rel => exact ⟨i + 1, by omega, by go_num, HN.out⟩
      case measure => simp [intOf]; omega
    · have hi' : i = 16 := by omega
      subst hi'
      have HP : Hid (Grow (fun k => k = g) w wr ∧ RB wr g (xr L o 64 (bt bs)) T fr) := ⟨hg, hr⟩
      clear hg hr
      go_wp2
      go_end0
      exact ⟨rfl, HP.out⟩
/-- the places of four blocks that are turned behind i rows and l lanes -/
def lan (o i l : Nat) (j : Nat) : Bool := decide (o ≤ j ∧ j < o + 256 ∧ ((j - o) % 64 / 4 < i ∨ ((j - o) % 64 / 4 = i ∧ (j - o) / 64 < l)))
theorem lan_iff (o i l j : Nat) : lan o i l j = true ↔ (o ≤ j ∧ j < o + 256 ∧ ((j - o) % 64 / 4 < i ∨ ((j - o) % 64 / 4 = i ∧ (j - o) / 64 < l))) := by simp [lan]
theorem seg_iff (o n j : Nat) : seg o n j = true ↔ (o ≤ j ∧ j < o + n) := by simp [seg]
/-- byte j of four blocks -/
def fbt (s : List Nat) (j : Nat) : Nat := bt (blk (ctr s (j / 64))) (j % 64)
theorem lan_step (L : List Nat) (s : List Nat) (o i l : Nat) (hi : i < 16) (hl : l < 4) :
    xr (xp L (lan o i l) (fun j => fbt s (j - o))) (o + (64 * l + 4 * i)) 4 (fun j => (blk (ctr s l)).getD i 0 / 256 ^ j % 256) = xp L (lan o i (l + 1)) (fun j => fbt s (j - o)) := by
  refine xp_comp (fun j hj => ?_) (fun j hj h => ?_) (fun j hj h => rfl) (fun j hj h => ?_)
  · rw [Bool.eq_iff_iff]
    simp only [Bool.or_eq_true, lan_iff, seg_iff]
    omega
  · rw [lan_iff] at h
    rw [← Bool.not_eq_true, seg_iff]
    omega
  · rw [seg_iff] at h
    obtain ⟨d, rfl⟩ : ∃ d, j = o + (64 * l + 4 * i) + d := ⟨j - (o + (64 * l + 4 * i)), by omega⟩
    unfold fbt
    rw [show (o + (64 * l + 4 * i) + d - o) / 64 = l by omega, show (o + (64 * l + 4 * i) + d - o) % 64 = 4 * i + d by omega, bt_at _ _ _ (by omega), show o + (64 * l + 4 * i) + d - (o + (64 * l + 4 * i)) = d by omega]
theorem lan_row (L : List Nat) (s : List Nat) (o i : Nat) : xp L (lan o i 4) (fun j => fbt s (j - o)) = xp L (lan o (i + 1) 0) (fun j => fbt s (j - o)) := by
  refine xp_congr (fun j hj => ?_) (fun j hj h => rfl)
  rw [Bool.eq_iff_iff]
  simp only [lan_iff]
  omega
theorem lan_zero (L : List Nat) (s : List Nat) (o : Nat) : xp L (lan o 0 0) (fun j => fbt s (j - o)) = L :=
  xp_none _ _ _ fun j hj => by
    rw [← Bool.not_eq_true, lan_iff]; omega
theorem lan_full (L : List Nat) (s : List Nat) (o : Nat) : xp L (lan o 16 0) (fun j => fbt s (j - o)) = xr L o 256 (fbt s) := by
  refine xp_congr (fun j hj => ?_) (fun j hj h => rfl)
  rw [Bool.eq_iff_iff]
  simp only [lan_iff, seg_iff]
  omega
set_option maxRecDepth 100000 in
set_option maxHeartbeats 4000000 in
theorem turnFour_any (g o : Nat) (s : List Nat) (hs : St s) (L : List Nat) (T : TypeId) (fr : Nat × Nat) (w : World) (h : RB w g L T fr) (ho : o + 256 ≤ L.length) :
    Calls Try.prog 32 #[.pointer (some ⟨g, o, none⟩), .agg (VN .u32 s)] w fun e w' => e = .returned (.tuple #[]) ∧ Grow (fun k => k = g) w w' ∧ RB w' g (xr L o 256 (fbt s)) T fr := by
  obtain ⟨n, hn⟩ : ∃ n, w.heap.size = n := ⟨_, rfl⟩
  obtain ⟨W0, hW0⟩ : ∃ W, w.alloc (.cells (VN .u32 s) 68) = W := ⟨_, rfl⟩
  have hB0 : Below w.heap.size w W0 := by rw [← hW0]; exact (Below.refl _ _).alloc (Nat.le_refl _) _
  have HP0 : Hid (RW W0 n s 68) := by
    show RW W0 n s _
    rw [← hW0, ← hn]; simp only [RW, heap_alloc_any]; rw [if_pos trivial]
  have HO : Hid (∀ w, Calls Try.prog 44 #[.agg (VN .u32 s)] w fun e w' => e = .returned (.agg (VN .u32 (wv fun l => blk (ctr s l)))) ∧ Below w.heap.size w w') := fun w => four_any s hs w
  have HIS : Hid ((Try.prog.info? 68).map (·.size) = some (VN .u32 s).size) := infoWs hs.len
  have sb : ∀ l, St (blk (ctr s l)) := fun l => (ctr_st hs l).blk
  have HT : Hid (∀ i l w', i < 16 → l < 4 → RB w' g (xp L (lan o i l) (fun j => fbt s (j - o))) T fr → Calls Try.prog 41 #[.pointer (some ⟨g, o + (64 * l + 4 * i), none⟩), .int .u32 (((wv fun l => blk (ctr s l)).getD (4 * i + l) 0 : Nat) : Int)] w' fun e w'' => e = .returned (.tuple #[]) ∧ But (fun k => k = g) w' w'' ∧ RB w'' g (xp L (lan o i (l + 1)) (fun j => fbt s (j - o))) T fr) := by
    intro i l w' hi hl h'
    have := turn_any g (o + (64 * l + 4 * i)) ((blk (ctr s l)).getD i 0) ((sb l).bd.at i) _ T fr w' h' (by rw [xp_len]; omega)
    rw [lan_step L s o i l hi hl] at this
    rw [wv_at4 _ i l hi hl]
    exact this
  have HBB : Hid (W32 (wv fun l => blk (ctr s l))) := wv_w fun l _ => (sb l).bd
  have lF : (wv fun l => blk (ctr s l)).length = 64 := wv_len _
  obtain ⟨F, hF⟩ : ∃ x, (wv fun l => blk (ctr s l)) = x := ⟨_, rfl⟩
  rw [hF] at HO HT HBB lF
  clear hF sb
  have HX : Hid (∀ (i : Nat), i < 16 → ∀ w : World, (Instr.index 88 (.agg (VN .u32 F)) (.int .i64 (i : Int))).run Try.prog w = .ok (.agg #[.int .u32 ((F.getD (4 * i) 0 : Nat) : Int), .int .u32 ((F.getD (4 * i + 1) 0 : Nat) : Int), .int .u32 ((F.getD (4 * i + 2) 0 : Nat) : Int), .int .u32 ((F.getD (4 * i + 3) 0 : Nat) : Int)]) w) := fun i hi w => run_index_four w F i lF hi
  have HB0 : Hid (Below w.heap.size w W0) := hB0
  have HR : Hid (RB w g L T fr) := h
  have HE : Hid (∀ w', RB w' g (xp L (lan o 16 0) (fun j => fbt s (j - o))) T fr → RB w' g (xr L o 256 (fbt s)) T fr) := fun w' h => by rw [lan_full] at h; exact h
  have HRow : Hid (∀ i w', RB w' g (xp L (lan o i 4) (fun j => fbt s (j - o))) T fr → RB w' g (xp L (lan o (i + 1) 0) (fun j => fbt s (j - o))) T fr) := fun i w' h => by rw [lan_row] at h; exact h
  clear h hB0 ho hs lF
  go_enter Try.func32, Try.ntmps32
  go_wp2_with (first | (go_at_call 44; refine (HO.out W0).mono ?_; rintro e w1 ⟨rfl, hb1⟩) | (with_reducible refine at_list ?_; first | (refine wpList_load_row rfl 68 (.tmp 3) rfl n rfl 68 (VN .u32 s) (0, 0) _ HP0.out Try.underlying68 rfl HIS.out ?_)))
  have HG1 : Hid (Grow (fun k => k = g) w w1 ∧ RB w1 g (xp L (lan o 0 0) (fun j => fbt s (j - o))) T fr) := by
    have hg : Below w.heap.size w w1 := HB0.out.trans (hb1.mono (HB0.out.size))
    show Grow (fun k => k = g) w w1 ∧ RB w1 g (xp L (lan o 0 0) (fun j => fbt s (j - o))) T fr
    rw [lan_zero]
    exact ⟨Grow.of_below hg, HR.out.below hg⟩
  clear hb1 hW0 HP0 HO HIS HB0 HR
  go_loopw [10] (fun v w' => ∃ i : Nat, i ≤ 16 ∧ v = .int .i64 i ∧ Grow (fun k => k = g) w w' ∧ RB w' g (xp L (lan o i 0) (fun j => fbt s (j - o))) T fr) (fun v _ => 16 - (intOf v).toNat)
  case atStart => exact ⟨0, Nat.zero_le _, rfl, HG1.out⟩
  case round =>
    clear HG1
    obtain ⟨i, hi, rfl, hg, hr⟩ := hrel
    by_cases hlt : i < 16
    · have hix := HX.out i hlt
      have b1 : (i : Int) < 16 := by omega
      have HTi : Hid (∀ l w', l < 4 → RB w' g (xp L (lan o i l) (fun j => fbt s (j - o))) T fr → Calls Try.prog 41 #[.pointer (some ⟨g, o + (64 * l + 4 * i), none⟩), .int .u32 ((F.getD (4 * i + l) 0 : Nat) : Int)] w' fun e w'' => e = .returned (.tuple #[]) ∧ But (fun k => k = g) w' w'' ∧ RB w'' g (xp L (lan o i (l + 1)) (fun j => fbt s (j - o))) T fr) := fun l w' hl h => HT.out i l w' hlt hl h
      have HXF : Hid (∀ l, l < 4 → [F.getD (4 * i) 0, F.getD (4 * i + 1) 0, F.getD (4 * i + 2) 0, F.getD (4 * i + 3) 0].getD l 0 = F.getD (4 * i + l) 0) := fun l hl => by
        rcases (by omega : l = 0 ∨ l = 1 ∨ l = 2 ∨ l = 3) with rfl | rfl | rfl | rfl <;> rfl
      generalize F.getD (4 * i) 0 = x0 at *
      generalize F.getD (4 * i + 1) 0 = x1 at *
      generalize F.getD (4 * i + 2) 0 = x2 at *
      generalize F.getD (4 * i + 3) 0 = x3 at *
      have HIL : Hid (∀ (l : Nat) (w : World), l < 4 → (Instr.index 86 (.agg #[.int .u32 (x0 : Int), .int .u32 (x1 : Int), .int .u32 (x2 : Int), .int .u32 (x3 : Int)]) (.int .i64 (l : Int))).run Try.prog w = .ok (.int .u32 ((F.getD (4 * i + l) 0 : Nat) : Int)) w) := fun l w hl => by
        have := run_index_vn w 86 24 .u32 .i64 4 [x0, x1, x2, x3] l rfl hl Try.underlying86 Try.underlying24 size_u32
        rw [HXF.out l hl] at this
        exact this
      have HP : Hid (Grow (fun k => k = g) w (wr.alloc (.cells #[.int .u32 (x0 : Int), .int .u32 (x1 : Int), .int .u32 (x2 : Int), .int .u32 (x3 : Int)] 86)) ∧ RB (wr.alloc (.cells #[.int .u32 (x0 : Int), .int .u32 (x1 : Int), .int .u32 (x2 : Int), .int .u32 (x3 : Int)] 86)) g (xp L (lan o i 0) (fun j => fbt s (j - o))) T fr) := by
        have hb : Below wr.heap.size wr (wr.alloc (.cells #[.int .u32 (x0 : Int), .int .u32 (x1 : Int), .int .u32 (x2 : Int), .int .u32 (x3 : Int)] 86)) := (Below.refl _ _).alloc (Nat.le_refl _) _
        exact ⟨hg.trans (Grow.of_below hb), hr.below hb⟩
      clear hg hr HT HX HXF
      go_wp2
      obtain ⟨W2, hW2⟩ : ∃ W2, wr.alloc (.cells #[.int .u32 (x0 : Int), .int .u32 (x1 : Int), .int .u32 (x2 : Int), .int .u32 (x3 : Int)] 86) = W2 := ⟨_, rfl⟩
      rw [hW2] at HP ⊢
      clear hW2
      go_loopw [15] (fun v w' => ∃ l : Nat, l ≤ 4 ∧ v = .int .i64 l ∧ Grow (fun k => k = g) w w' ∧ RB w' g (xp L (lan o i l) (fun j => fbt s (j - o))) T fr) (fun v _ => 4 - (intOf v).toNat)
      case atStart => exact ⟨0, Nat.zero_le _, rfl, HP.out⟩
      case round =>
        clear HP
        obtain ⟨l, hl, rfl, hg, hr⟩ := hrel
        by_cases hlt2 : l < 4
        · have hil := HIL.out l wr hlt2
          have HC : Hid _ := HTi.out l wr hlt2 hr
          have y2 := HBB.out.at (4 * i + l)
          generalize F.getD (4 * i + l) 0 = xw at *
          have b2 : (l : Int) < 4 := by omega
          have hsl := run_piece wr 115 256 g o Try.underlying115 (64 * (l : Int) + 4 * (i : Int)) (64 * (l : Int) + 4 * (i : Int) + 4) (64 * l + 4 * i) (64 * l + 4 * i + 4) (by omega) (by omega) (by omega) (by omega) (by omega)
          rw [show 64 * l + 4 * i + 4 - (64 * l + 4 * i) = 4 by omega] at hsl
          have hat := run_four wr (some ⟨g, o + (64 * l + 4 * i), none⟩) (256 - (64 * l + 4 * i))
          have HG : Hid (Grow (fun k => k = g) w wr) := hg
          clear hg hr HTi HE HRow
          go_wp2_with (first | (go_at_call 41; refine Calls.mono HC.out ?_; rintro e w2 ⟨rfl, hb2, hr2⟩))
          have HN : Hid (Grow (fun k => k = g) w w2 ∧ RB w2 g (xp L (lan o i (l + 1)) (fun j => fbt s (j - o))) T fr) := ⟨HG.out.trans (Grow.of_but hb2), hr2⟩
          clear hb2 hr2
          go_wp2
          go_roundw
          case rel => exact ⟨l + 1, by omega, by go_num, HN.out⟩
          case measure => simp [intOf]; omega
        · have hl' : l = 4 := by omega
          subst hl'
          have HN : Hid (Grow (fun k => k = g) w wr ∧ RB wr g (xp L (lan o (i + 1) 0) (fun j => fbt s (j - o))) T fr) := ⟨hg, HRow.out i wr hr⟩
          clear hg hr HE HRow
          go_wp2
          go_roundw
          case rel => exact ⟨i + 1, by omega, by go_num, HN.out⟩
          case measure => simp [intOf]; omega
    · have hi' : i = 16 := by omega
      subst hi'
      have HP : Hid (Grow (fun k => k = g) w wr ∧ RB wr g (xr L o 256 (fbt s)) T fr) := ⟨hg, HE.out _ hr⟩
      clear hg hr
      go_wp2
      go_end0
      exact ⟨rfl, HP.out⟩
end Go.Proofs.Ytefnlaookmpbhaa
