import Derived.Test.YtacofgmnmofkpaaMfaa
namespace Go.Proofs.Ytacofgmnmofkpaa
set_option linter.unusedSimpArgs false
open Go.ChangeShapes Go.WideShapes Go.ChangeAt Go.RowKit Go.Pin Go.Fld
theorem infoE : (Try.prog.info? 47).map (·.size) = some 5 := by kernel_rfl
theorem infoA5 : (Try.prog.info? 45).map (·.size) = some 5 := by kernel_rfl
theorem VI5 (k : IntKind) {l : List Int} (h : l.length = 5) : (VI k l).size = 5 := by simp [h]
/-- a row of limbs in its box -/
abbrev rowAt (w : World) (g : Nat) (l : List Int) (T : TypeId) : Prop := w.heap[g]? = some (.cells (VI .u64 l) T (0, 0))
theorem row_cell {w : World} {g : Nat} {l : List Int} {T : TypeId} (h : rowAt w g l T) {i : Nat} (hi : i < l.length) : w.cell? ⟨g, i, none⟩ = some (.int .u64 (l.getD i 0)) := by
  rw [cell_of_row w _ _ _ _ _ h, VI_at _ _ _ hi]
theorem row_set {w : World} {g : Nat} {l : List Int} {T : TypeId} (h : rowAt w g l T) (i : Nat) (v : Int) : rowAt (w.setCell ⟨g, i, none⟩ (.int .u64 v)) g (l.set i v) T := by
  unfold rowAt
  rw [heap_setCell_same w _ _ _ _ _ h, VI_set]
theorem row_other {w : World} {g : Nat} {o : Option Obj} (h : w.heap[g]? = o) {p : Addr} (hp : g ≠ p.block) (v : Value) : (w.setCell p v).heap[g]? = o := by
  rw [heap_setCell_other _ _ _ _ hp]; exact h
theorem fill_step (b R : List Int) (k : Nat) (hl : R.length = 10) (hk : k < 5) (h : ∀ j, j < k → R.getD j 0 = 19 * b.getD j 0 ∧ R.getD (j + 5) 0 = b.getD j 0) :
    ∀ j, j < k + 1 → ((R.set k (19 * b.getD k 0)).set (k + 5) (b.getD k 0)).getD j 0 = 19 * b.getD j 0 ∧ ((R.set k (19 * b.getD k 0)).set (k + 5) (b.getD k 0)).getD (j + 5) 0 = b.getD j 0 := by
  intro j hj
  simp only [List.getD_eq_getElem?_getD, List.getElem?_set, List.length_set] at h ⊢
  by_cases e : j = k
  · subst e
    constructor
    · rw [if_neg (by omega), if_pos rfl, if_pos (by omega)]; rfl
    · rw [if_pos rfl, if_pos (by omega)]; rfl
  · have := h j (by omega)
    constructor
    · rw [if_neg (by omega), if_neg (by omega)]; exact this.1
    · rw [if_neg (by omega), if_neg (by omega)]; exact this.2
theorem fill_done (b R : List Int) (hl : R.length = 10) (hb : b.length = 5) (h : ∀ j, j < 5 → R.getD j 0 = 19 * b.getD j 0 ∧ R.getD (j + 5) 0 = b.getD j 0) : R = rw10 b := by
  obtain ⟨b0, b1, b2, b3, b4, rfl⟩ := five hb
  match R, hl with
  | [r0, r1, r2, r3, r4, r5, r6, r7, r8, r9], _ =>
    have h0 := h 0 (by omega)
    have h1 := h 1 (by omega)
    have h2 := h 2 (by omega)
    have h3 := h 3 (by omega)
    have h4 := h 4 (by omega)
    simp at h0 h1 h2 h3 h4
    simp [rw10, h0, h1, h2, h3, h4]
structure PW1 (w : World) (a b R : List Int) (wr : World) : Prop where
  old : Below w.heap.size w wr
  sz : wr.heap.size = w.heap.size + 4
  ha : rowAt wr w.heap.size a 47
  hb : rowAt wr (w.heap.size + 1) b 47
  res : rowAt wr (w.heap.size + 2) (List.replicate 5 0) 47
  row : rowAt wr (w.heap.size + 3) R 121
theorem PW1.start (w : World) (a b : List Int) : PW1 w a b (List.replicate 10 0) ((((w.alloc (.cells (VI .u64 a) 47)).alloc (.cells (VI .u64 b) 47)).alloc (.cells (VI .u64 (List.replicate 5 0)) 47)).alloc (.cells (VI .u64 (List.replicate 10 0)) 121)) := by
  refine ⟨((((Below.refl _ _).alloc (Nat.le_refl _) _).alloc (by simp) _).alloc (by simp; omega) _).alloc (by simp; omega) _, by simp [size_alloc], ?_, ?_, ?_, ?_⟩
  all_goals simp only [rowAt, heap_alloc_any, size_alloc]
  · rw [if_neg (by omega), if_neg (by omega), if_neg (by omega), if_pos trivial]
  · rw [if_neg (by omega), if_neg (by omega), if_pos trivial]
  · rw [if_neg (by omega), if_pos trivial]
  · rw [if_pos trivial]
theorem PW1.set {w wr : World} {a b R : List Int} (h : PW1 w a b R wr) (i : Nat) (v : Int) : PW1 w a b (R.set i v) (wr.setCell ⟨w.heap.size + 3, i, none⟩ (.int .u64 v)) := by
  obtain ⟨h1, h2, h3, h4, h5, h6⟩ := h
  exact ⟨h1.setCell (by simp) _, by simpa using h2, row_other h3 (by simp) _, row_other h4 (by simp) _, row_other h5 (by simp) _, row_set h6 _ _⟩
structure PW2 (w : World) (a R c : List Int) (wr : World) : Prop where
  old : Below w.heap.size w wr
  sz : w.heap.size + 5 ≤ wr.heap.size
  ha : rowAt wr w.heap.size a 47
  res : rowAt wr (w.heap.size + 2) (List.replicate 5 0) 47
  row : rowAt wr (w.heap.size + 3) R 121
  lim : rowAt wr (w.heap.size + 4) c 47
theorem PW1.next {w wr : World} {a b R : List Int} (h : PW1 w a b R wr) : PW2 w a R (List.replicate 5 0) (wr.alloc (.cells (VI .u64 (List.replicate 5 0)) 47)) := by
  obtain ⟨h1, h2, h3, h4, h5, h6⟩ := h
  refine ⟨h1.alloc h1.size _, by simp [size_alloc, h2], ?_, ?_, ?_, ?_⟩
  all_goals simp only [rowAt, heap_alloc_any, h2]
  · rw [if_neg (by omega)]; exact h3
  · rw [if_neg (by omega)]; exact h5
  · rw [if_neg (by omega)]; exact h6
  · rw [if_pos trivial]
theorem PW2.below {w wr wr' : World} {a R c : List Int} (h : PW2 w a R c wr) (k : Below (w.heap.size + 5) wr wr') : PW2 w a R c wr' := by
  obtain ⟨h1, h2, h3, h5, h6, h7⟩ := h
  exact ⟨h1.trans (k.mono (by omega)), Nat.le_trans h2 k.size, (k.block _ (by omega)).trans h3, (k.block _ (by omega)).trans h5, (k.block _ (by omega)).trans h6, (k.block _ (by omega)).trans h7⟩
theorem PW2.set {w wr : World} {a R c : List Int} (h : PW2 w a R c wr) (i : Nat) (v : Int) : PW2 w a R (c.set i v) (wr.setCell ⟨w.heap.size + 4, i, none⟩ (.int .u64 v)) := by
  obtain ⟨h1, h2, h3, h5, h6, h7⟩ := h
  exact ⟨h1.setCell (by simp) _, by simpa using h2, row_other h3 (by simp) _, row_other h5 (by simp) _, row_other h6 (by simp) _, row_set h7 _ _⟩
/-- with a sum in its box at G -/
structure PW3 (w : World) (a R c : List Int) (G : Nat) (s : Int) (wr : World) : Prop extends PW2 w a R c wr where
  hG : w.heap.size + 5 ≤ G
  sum : wr.heap[G]? = some (.cells (wd s) 123 (0, 0))
theorem lim_at {a : List Int} (h : Lim a) {k : Nat} (hk : k < 5) : 0 ≤ a.getD k 0 ∧ a.getD k 0 < 4503599627370496 := by
  have : k < a.length := by rw [h.len]; exact hk
  exact h.bd _ (by rw [List.getD_eq_getElem?_getD, List.getElem?_eq_getElem this]; exact List.getElem_mem this)
theorem rw10_len {b : List Int} (h : b.length = 5) : (rw10 b).length = 10 := by simp [rw10, h]
theorem rw10_bd {b : List Int} (h : Lim b) : ∀ x ∈ rw10 b, 0 ≤ x ∧ x < 85568392920039424 := by
  intro x hx
  simp only [rw10, List.mem_append, List.mem_map] at hx
  rcases hx with ⟨y, hy, rfl⟩ | hx
  · have := h.bd y hy; omega
  · have := h.bd x hx; omega
theorem rw10_at {b : List Int} (h : Lim b) {k : Nat} (hk : k < 10) : 0 ≤ (rw10 b).getD k 0 ∧ (rw10 b).getD k 0 < 85568392920039424 := by
  have : k < (rw10 b).length := by rw [rw10_len h.len]; exact hk
  exact rw10_bd h _ (by rw [List.getD_eq_getElem?_getD, List.getElem?_eq_getElem this]; exact List.getElem_mem this)
theorem bdq {x y : Int} (x0 : 0 ≤ x) (x1 : x < 4503599627370496) (y0 : 0 ≤ y) (y1 : y < 85568392920039424) : 0 ≤ x * y ∧ x * y < 385365782469381738054997774434304 :=
  ⟨Int.mul_nonneg x0 y0, by
    have h1 : x * y ≤ 4503599627370496 * y := Int.mul_le_mul_of_nonneg_right (by omega) y0
    omega⟩
theorem sm_bd {a b : List Int} (ha : Lim a) (hb : Lim b) (p : Nat) : ∀ k : Nat, 0 ≤ sm a (rw10 b) p k ∧ sm a (rw10 b) p k ≤ k * 385365782469381738054997774434304
  | 0 => by simp [sm]
  | k + 1 => by
    have ih := sm_bd ha hb p k
    have ga : 0 ≤ a.getD k 0 ∧ a.getD k 0 < 4503599627370496 := by
      by_cases h : k < 5
      · exact lim_at ha h
      · rw [List.getD_eq_getElem?_getD, List.getElem?_eq_none (by rw [ha.len]; omega)]; simp
    have gb : 0 ≤ (rw10 b).getD (p + 5 - k) 0 ∧ (rw10 b).getD (p + 5 - k) 0 < 85568392920039424 := by
      by_cases h : p + 5 - k < 10
      · exact rw10_at hb h
      · rw [List.getD_eq_getElem?_getD, List.getElem?_eq_none (by rw [rw10_len hb.len]; omega)]; simp
    have := bdq ga.1 ga.2 gb.1 gb.2
    simp only [sm]
    generalize a.getD k 0 * (rw10 b).getD (p + 5 - k) 0 = z at *
    omega
theorem PW3.next {w wr w' : World} {a R l : List Int} {G : Nat} {s : Int} (h : PW3 w a R l G s wr) (hb : Below wr.heap.size wr w') (t : Int) :
    PW3 w a R l G t ((w'.setCell ⟨G, 0, none⟩ (.int .u64 (t / 18446744073709551616))).setCell ⟨G, 1, none⟩ (.int .u64 (t % 18446744073709551616))) := by
  have hG := h.hG
  have hw : Below (w.heap.size + 5) wr ((w'.setCell ⟨G, 0, none⟩ (.int .u64 (t / 18446744073709551616))).setCell ⟨G, 1, none⟩ (.int .u64 (t % 18446744073709551616))) :=
    ((hb.mono h.sz).setCell hG _).setCell hG _
  have hlt : G < wr.heap.size := (Array.getElem?_eq_some_iff.1 h.sum).1
  have hs : w'.heap[G]? = some (.cells (wd s) 123 (0, 0)) := (hb.block G hlt).trans h.sum
  refine ⟨h.toPW2.below hw, hG, ?_⟩
  rw [heap_setCell_same _ _ _ _ _ _ (heap_setCell_same _ _ _ _ _ _ hs)]
  rfl
theorem wd_small {c : Int} (c0 : 0 ≤ c) (c1 : c < 18446744073709551616) : wd c = #[.int .u64 0, .int .u64 c] := by
  simp only [wd]
  rw [Int.ediv_eq_zero_of_lt c0 c1, Int.emod_eq_of_lt c0 c1]
theorem PW2.sum {w wr : World} {a R l : List Int} (h : PW2 w a R l wr) {c : Int} (c0 : 0 ≤ c) (c1 : c < 18446744073709551616) (p : Nat) : PW3 w a R l wr.heap.size (c + sm a R p 0) (wr.alloc (.cells #[.int .u64 0, .int .u64 c] 123)) := by
  refine ⟨h.below ((Below.refl _ _).alloc h.sz _), h.sz, ?_⟩
  rw [heap_alloc_any, if_pos rfl, show c + sm a R p 0 = c by simp [sm], wd_small c0 c1]
theorem sums_at (a b : List Int) (k : Nat) (hk : k < 5) {s : Int} {r : List Int} (h : s :: r = (sums a b).drop k) : s = sm a (rw10 b) k 5 := by
  have h5 : k = 0 ∨ k = 1 ∨ k = 2 ∨ k = 3 ∨ k = 4 := by omega
  rcases h5 with rfl | rfl | rfl | rfl | rfl <;> simp [sums] at h <;> exact h.1
theorem or_shift (s : Int) (s0 : 0 ≤ s) (s1 : s < 20769187434139310514121985316880384) :
    bits .or .u64 (s / 18446744073709551616 * 8192) (s % 18446744073709551616 / 2251799813685248) = s / 2251799813685248 := by
  obtain ⟨n, rfl⟩ := Int.eq_ofNat_of_zero_le s0
  have h1 : (n : Int) / 18446744073709551616 * 8192 = ((n / 18446744073709551616 * 8192 : Nat) : Int) := by omega
  have h2 : (n : Int) % 18446744073709551616 / 2251799813685248 = ((n % 18446744073709551616 / 2251799813685248 : Nat) : Int) := by omega
  rw [h1, h2, u64_or_nat _ _ (by omega) (by omega)]
  have := Nat.shiftLeft_add_eq_or_of_lt (i := 13) (show n % 18446744073709551616 / 2251799813685248 < 2 ^ 13 by omega) (n / 18446744073709551616)
  rw [Nat.shiftLeft_eq] at this
  rw [show (8192 : Nat) = 2 ^ 13 by decide, ← this]
  omega
set_option maxRecDepth 100000 in
set_option maxHeartbeats 8000000 in
theorem product_any (a b : List Int) (ha : Lim a) (hb : Lim b) (w : World) :
    Calls Try.prog 59 #[.agg (VI .u64 a), .agg (VI .u64 b)] w fun e w' => e = .returned (.agg (VI .u64 (prod a b))) ∧ Below w.heap.size w w' := by
  have HA : Hid (Lim a) := ha
  have HB : Hid (Lim b) := hb
  clear ha hb
  go_enter Try.func59, Try.ntmps59
  go_wp2_with (first | go_in)
  go_loopw [12] (fun i w' => ∃ (k : Nat) (R : List Int), k ≤ 5 ∧ i = .int .i64 k ∧ R.length = 10 ∧ (∀ j, j < k → R.getD j 0 = 19 * b.getD j 0 ∧ R.getD (j + 5) 0 = b.getD j 0) ∧ PW1 w a b R w') (fun i _ => 5 - (intOf i).toNat)
  case atStart =>
    exact ⟨0, List.replicate 10 0, Nat.zero_le _, rfl, rfl, fun j hj => absurd hj (Nat.not_lt_zero j), PW1.start w a b⟩
  case round =>
    obtain ⟨k, R, hk, rfl, hl, hR, hp⟩ := hrel
    by_cases hlt : k < 5
    · have hcb := row_cell hp.hb (i := k) (by rw [HB.out.len]; exact hlt)
      have hc1 := row_cell hp.row (i := k) (by omega)
      have hc2 := row_cell hp.row (i := k + 5) (by omega)
      have hf1 : wr.frozen? ⟨w.heap.size + 3, k, none⟩ = false := frozen_of_row wr _ _ _ _ hp.row
      have hf2 : wr.frozen? ⟨w.heap.size + 3, k + 5, none⟩ = false := frozen_of_row wr _ _ _ _ hp.row
      have hbk := HB.out.bd (b.getD k 0) (by
        have : k < b.length := by rw [HB.out.len]; exact hlt
        rw [List.getD_eq_getElem?_getD, List.getElem?_eq_getElem this]; exact List.getElem_mem this)
      have HR : Hid (∀ j, j < k → R.getD j 0 = 19 * b.getD j 0 ∧ R.getD (j + 5) 0 = b.getD j 0) := hR
      have HS : Hid (PW1 w a b ((R.set k (19 * b.getD k 0)).set (k + 5) (b.getD k 0)) ((wr.setCell ⟨w.heap.size + 3, k, none⟩ (.int .u64 (19 * b.getD k 0))).setCell ⟨w.heap.size + 3, k + 5, none⟩ (.int .u64 (b.getD k 0)))) := (hp.set _ _).set _ _
      have HF : Hid (∀ j, j < k + 1 → ((R.set k (19 * b.getD k 0)).set (k + 5) (b.getD k 0)).getD j 0 = 19 * b.getD j 0 ∧ ((R.set k (19 * b.getD k 0)).set (k + 5) (b.getD k 0)).getD (j + 5) 0 = b.getD j 0) := fill_step b R k hl hlt HR.out
      have hlen : Hid (((R.set k (19 * b.getD k 0)).set (k + 5) (b.getD k 0)).length = 10) := by
        have : ((R.set k (19 * b.getD k 0)).set (k + 5) (b.getD k 0)).length = 10 := by simpa using hl
        exact this
      obtain ⟨q0, q1⟩ := hbk
      clear hp hR HR hl
      generalize hbk : b.getD k 0 = bk at *
      generalize R.getD k 0 = rk1 at *
      generalize R.getD (k + 5) 0 = rk2 at *
      have HK : Hid (b.getD k 0 = bk) := hbk
      clear hbk
      go_wp2
      go_roundw
      case rel =>
        exact ⟨k + 1, _, by omega, by go_num, hlen.out, HF.out, HS.out⟩
      case measure => simp [intOf]; omega
    · have hk' : k = 5 := by omega
      subst hk'
      have hR10 : R = rw10 b := fill_done b R hl HB.out.len hR
      subst hR10
      have HN : Hid (PW2 w a (rw10 b) (List.replicate 5 0) (wr.alloc (.cells (VI .u64 (List.replicate 5 0)) 47))) := hp.next
      obtain ⟨w1, hw1⟩ : ∃ w1, wr.alloc (.cells (VI .u64 (List.replicate 5 0)) 47) = w1 := ⟨_, rfl⟩
      have hw1' : wr.alloc (.cells #[.int .u64 0, .int .u64 0, .int .u64 0, .int .u64 0, .int .u64 0] 47) = w1 := hw1
      have hs : wr.heap.size = w.heap.size + 4 := hp.sz
      rw [hw1] at HN
      clear hp hR hl hk hlt hw1
      rw [show ((5 : Nat) : Int) = 5 from rfl]
      go_wp2
      go_loopw [8, 30] (fun o i w' => ∃ (d r : List Int) (c : Int), i = .int .i64 (d.length : Nat) ∧ o = .int .u64 c ∧ 0 ≤ c ∧ c < 2305843009213693952 ∧ d.length + r.length = 5 ∧ r = (sums a b).drop d.length ∧ cy 0 (sums a b) = d ++ cy c r ∧ co 0 (sums a b) = co c r ∧ PW2 w a (rw10 b) (d ++ List.replicate r.length 0) w') (fun _ i _ => 5 - (intOf i).toNat)
      case atStart =>
        exact ⟨[], sums a b, 0, rfl, rfl, by decide, by decide, rfl, rfl, rfl, rfl, HN.out⟩
      case round =>
        clear HN hw1' hs
        clear w1
        obtain ⟨d, r, c, rfl, rfl, c0, c1, hl, hr, hcy, hco, hp⟩ := hrel
        cases r with
        | cons s r =>
          have hd : d.length < 5 := by simp at hl; omega
          have HP : Hid (PW2 w a (rw10 b) (d ++ List.replicate (s :: r).length 0) wr) := hp
          have HS : Hid (PW3 w a (rw10 b) (d ++ List.replicate (s :: r).length 0) wr.heap.size (c + sm a (rw10 b) d.length 0) (wr.alloc (.cells #[.int .u64 0, .int .u64 c] 123))) := hp.sum c0 (by omega) _
          have HE : Hid (s = sm a (rw10 b) d.length 5) := sums_at a b d.length hd hr
          have HC : Hid (cy 0 (sums a b) = d ++ cy c (s :: r)) := hcy
          have HO : Hid (co 0 (sums a b) = co c (s :: r)) := hco
          have HL : Hid (d.length + (s :: r).length = 5) := hl
          have HR : Hid (s :: r = (sums a b).drop d.length) := hr
          clear hp hcy hco hl hr
          have hdd : decide ((d.length : Int) < 5) = true := by simp; omega
          obtain ⟨G, hG⟩ : ∃ G, wr.heap.size = G := ⟨_, rfl⟩
          rw [hG] at HS
          go_wp2
          go_loopw [35] (fun i w' => ∃ k : Nat, k ≤ 5 ∧ i = .int .i64 k ∧ PW3 w a (rw10 b) (d ++ List.replicate (s :: r).length 0) G (c + sm a (rw10 b) d.length k) w') (fun i _ => 5 - (intOf i).toNat)
          case atStart =>
            exact ⟨0, Nat.zero_le _, rfl, HS.out⟩
          case round =>
            clear HS HP
            obtain ⟨k, hk, rfl, hp⟩ := hrel
            by_cases hlt : k < 5
            · obtain ⟨j, hj⟩ : ∃ j : Nat, j = d.length + 5 - k := ⟨_, rfl⟩
              have hj' : (d.length : Int) - k + 5 = (j : Int) := by omega
              have hca := row_cell hp.ha (i := k) (by rw [HA.out.len]; exact hlt)
              have hcr := row_cell hp.row (i := j) (by rw [rw10_len HB.out.len]; omega)
              have hs0 : wr.cell? ⟨G, 0, none⟩ = some (.int .u64 ((c + sm a (rw10 b) d.length k) / 18446744073709551616)) := by rw [cell_of_row wr _ _ _ _ _ hp.sum]; rfl
              have hs1 : wr.cell? ⟨G, 1, none⟩ = some (.int .u64 ((c + sm a (rw10 b) d.length k) % 18446744073709551616)) := by rw [cell_of_row wr _ _ _ _ _ hp.sum]; rfl
              have hz : wr.frozen? ⟨G, 0, none⟩ = false := frozen_of_row wr _ _ _ _ hp.sum
              have hz1 : wr.frozen? ⟨G, 1, none⟩ = false := frozen_of_row wr _ _ _ _ hp.sum
              obtain ⟨y0, y1⟩ := lim_at HA.out hlt
              obtain ⟨z0, z1⟩ := rw10_at HB.out (show j < 10 by omega)
              have hsm := sm_bd HA.out HB.out d.length k
              have hpr := bdq y0 y1 z0 z1
              have HX : Hid (∀ w, Calls Try.prog 67 #[.agg (wd (c + sm a (rw10 b) d.length k)), .int .u64 (a.getD k 0), .int .u64 ((rw10 b).getD j 0)] w fun e w' => e = .returned (.agg (wd (c + sm a (rw10 b) d.length (k + 1)))) ∧ Below w.heap.size w w') := fun w => by
                have := plus_any (c + sm a (rw10 b) d.length k) (a.getD k 0) ((rw10 b).getD j 0) w (by omega) y0 (by omega) z0 (by omega) (by omega)
                rw [show c + sm a (rw10 b) d.length (k + 1) = c + sm a (rw10 b) d.length k + a.getD k 0 * (rw10 b).getD j 0 by rw [sm, hj]; omega]
                exact this
              have HQ : Hid (∀ w', Below wr.heap.size wr w' → PW3 w a (rw10 b) (d ++ List.replicate (s :: r).length 0) G (c + sm a (rw10 b) d.length (k + 1)) ((w'.setCell ⟨G, 0, none⟩ (.int .u64 ((c + sm a (rw10 b) d.length (k + 1)) / 18446744073709551616))).setCell ⟨G, 1, none⟩ (.int .u64 ((c + sm a (rw10 b) d.length (k + 1)) % 18446744073709551616)))) := fun w' hb => hp.next hb _
              have hGs : G < wr.heap.size := (Array.getElem?_eq_some_iff.1 hp.sum).1
              have HP : Hid (PW3 w a (rw10 b) (d ++ List.replicate (s :: r).length 0) G (c + sm a (rw10 b) d.length k) wr) := hp
              have HJ : Hid (j = d.length + 5 - k) := hj
              clear hp hj hpr hsm
              have HJ10 : Hid (j < 10) := by
                have := HJ.out
                show j < 10
                omega
              have hj0 : (0 : Int) ≤ j := by omega
              have hwr1 : IntKind.i64.wrap ((d.length : Int) - k) = d.length - k := by rw [IntKind.wrap_i64]; omega
              have hwr2 : IntKind.i64.wrap (j : Int) = j := by rw [IntKind.wrap_i64]; omega
              have hj10' : ¬ (10 ≤ j) := by omega
              have hj10 : (j : Int) < 10 := by have := HJ10.out; omega
              generalize a.getD k 0 = ak at *
              generalize (rw10 b).getD j 0 = rj at *
              generalize hsh : (c + sm a (rw10 b) d.length k) / 18446744073709551616 = sh at *
              generalize hsl : (c + sm a (rw10 b) d.length k) % 18446744073709551616 = sl at *
              generalize hS1 : c + sm a (rw10 b) d.length (k + 1) = S' at *
              have HS1 : Hid (c + sm a (rw10 b) d.length (k + 1) = S') := hS1
              clear hS1
              have HX' : Hid (∀ w, Calls Try.prog 67 #[.agg #[.int .u64 sh, .int .u64 sl], .int .u64 ak, .int .u64 rj] w fun e w' => e = .returned (.agg #[.int .u64 (S' / 18446744073709551616), .int .u64 (S' % 18446744073709551616)]) ∧ Below w.heap.size w w') := fun w => by
                rw [← hsh, ← hsl]
                exact HX.out w
              clear HX hsh hsl
              generalize S' / 18446744073709551616 = th at *
              generalize S' % 18446744073709551616 = tl at *
              go_wp2
              go_region_with (go_at_call 67; refine (HX'.out _).mono ?_; rintro e w2 ⟨rfl, hb2⟩; have q0 : w2.cell? ⟨G, 0, none⟩ = some (.int .u64 sh) := (hb2.cell (p := ⟨G, 0, none⟩) hGs).trans hs0; have q1 : w2.cell? ⟨G, 1, none⟩ = some (.int .u64 sl) := (hb2.cell (p := ⟨G, 1, none⟩) hGs).trans hs1; have q2 : w2.frozen? ⟨G, 0, none⟩ = false := (hb2.frozen (p := ⟨G, 0, none⟩) hGs).trans hz; have q3 : w2.frozen? ⟨G, 1, none⟩ = false := (hb2.frozen (p := ⟨G, 1, none⟩) hGs).trans hz1)
              all_goals (
                have HB2 : Hid (Below wr.heap.size wr w2) := (Below.refl _ _).drew.trans hb2
                clear hb2
                go_wp2
                go_roundw
                case rel => exact ⟨k + 1, by omega, by go_num, by rw [HS1.out]; exact HQ.out _ HB2.out⟩
                case measure => simp [intOf]; omega)
            · have hk' : k = 5 := by omega
              subst hk'
              have hsm := sm_bd HA.out HB.out d.length 5
              rw [← HE.out] at hsm hp
              have HP : Hid (PW3 w a (rw10 b) (d ++ List.replicate (s :: r).length 0) G (c + s) wr) := hp
              have hs0 : wr.cell? ⟨G, 0, none⟩ = some (.int .u64 ((c + s) / 18446744073709551616)) := by rw [cell_of_row wr _ _ _ _ _ hp.sum]; rfl
              have hs1 : wr.cell? ⟨G, 1, none⟩ = some (.int .u64 ((c + s) % 18446744073709551616)) := by rw [cell_of_row wr _ _ _ _ _ hp.sum]; rfl
              have hcl := row_cell hp.lim (i := d.length) (by have := HL.out; simp at this ⊢)
              have hfz : wr.frozen? ⟨w.heap.size + 4, d.length, none⟩ = false := frozen_of_row wr _ _ _ _ hp.lim
              have hm := mask51 ((c + s) % 18446744073709551616) (by omega) (by omega)
              have hgG : w.heap.size + 5 ≤ G := hp.hG
              have hne : w.heap.size + 4 ≠ G := by omega
              have hor := or_shift (c + s) (by omega) (by omega)
              clear hp
              go_wp2
              go_roundw
              case rel =>
                refine ⟨d ++ [(s + c) % 2251799813685248], r, (s + c) / 2251799813685248, by simp, ?_, by omega, by omega, by have := HL.out; simp at this ⊢; omega, ?_, by rw [HC.out]; simp [cy], HO.out, ?_⟩
                · rw [Int.add_comm s c]
                · have := HR.out
                  rw [List.length_append, List.length_singleton, ← List.drop_drop, ← this]
                  rfl
                · have := HP.out.toPW2.set d.length ((c + s) % 2251799813685248)
                  have e : (d ++ List.replicate (s :: r).length (0 : Int)).set d.length ((c + s) % 2251799813685248) = d ++ [(s + c) % 2251799813685248] ++ List.replicate r.length (0 : Int) := by
                    rw [List.length_cons, List.replicate_succ, set_mid, Int.add_comm c s]
                    simp
                  rw [e] at this
                  exact this
              case measure => simp [intOf]; omega
        | nil =>
          have hd : d.length = 5 := by simpa using hl
          have hdn : ((d.length : Nat) : Int) = 5 := by omega
          have e1 : cy 0 (sums a b) = d := by rw [hcy]; exact List.append_nil d
          have e2 : co 0 (sums a b) = c := hco
          obtain ⟨o0, o1⟩ := sums_over HA.out HB.out
          rw [e2] at o0 o1
          have hdl := cy_lt (sums a b) 0
          rw [e1] at hdl
          have HE : Hid (prod a b = last d c) := by
            have : prod a b = last d c := by rw [prod, e1, e2]
            exact this
          obtain ⟨x0, x1, x2, x3, x4, rfl⟩ := five hd
          simp only [List.mem_cons, List.not_mem_nil, or_false, forall_eq_or_imp, forall_eq] at hdl
          obtain ⟨⟨y0, z0⟩, ⟨y1, z1⟩, _⟩ := hdl
          have hp' : PW2 w a (rw10 b) [x0, x1, x2, x3, x4] wr := hp
          have hc0 := row_cell hp'.lim (i := 0) (by simp)
          have hc1 := row_cell hp'.lim (i := 1) (by simp)
          have hf0 : wr.frozen? ⟨w.heap.size + 4, 0, none⟩ = false := frozen_of_row wr _ _ _ _ hp'.lim
          have hf1 : wr.frozen? ⟨w.heap.size + 4, 1, none⟩ = false := frozen_of_row wr _ _ _ _ hp'.lim
          simp only [List.getD_cons_zero, List.getD_cons_succ] at hc0 hc1
          have hm := mask51 (x0 + 19 * c) (by omega) (by omega)
          have HP : Hid (PW2 w a (rw10 b) [(x0 + 19 * c) % 2251799813685248, x1 + (x0 + 19 * c) / 2251799813685248, x2, x3, x4] (((wr.setCell ⟨w.heap.size + 4, 0, none⟩ (.int .u64 (x0 + 19 * c))).setCell ⟨w.heap.size + 4, 1, none⟩ (.int .u64 (x1 + (x0 + 19 * c) / 2251799813685248))).setCell ⟨w.heap.size + 4, 0, none⟩ (.int .u64 ((x0 + 19 * c) % 2251799813685248)))) := ((hp'.set 0 _).set 1 _).set 0 _
          have hc2 := row_cell hp'.lim (i := 2) (by simp)
          have hc3 := row_cell hp'.lim (i := 3) (by simp)
          have hc4 := row_cell hp'.lim (i := 4) (by simp)
          simp only [List.getD_cons_zero, List.getD_cons_succ] at hc2 hc3 hc4
          have hr0 := row_cell hp'.res (i := 0) (by simp)
          have hr1 := row_cell hp'.res (i := 1) (by simp)
          have hr2 := row_cell hp'.res (i := 2) (by simp)
          have hr3 := row_cell hp'.res (i := 3) (by simp)
          have hr4 := row_cell hp'.res (i := 4) (by simp)
          have hg0 : wr.frozen? ⟨w.heap.size + 2, 0, none⟩ = false := frozen_of_row wr _ _ _ _ hp'.res
          have hg1 : wr.frozen? ⟨w.heap.size + 2, 1, none⟩ = false := frozen_of_row wr _ _ _ _ hp'.res
          have hg2 : wr.frozen? ⟨w.heap.size + 2, 2, none⟩ = false := frozen_of_row wr _ _ _ _ hp'.res
          have hg3 : wr.frozen? ⟨w.heap.size + 2, 3, none⟩ = false := frozen_of_row wr _ _ _ _ hp'.res
          have hg4 : wr.frozen? ⟨w.heap.size + 2, 4, none⟩ = false := frozen_of_row wr _ _ _ _ hp'.res
          have ho := hp'.old
          have HRS : Hid (rowAt wr (w.heap.size + 2) (List.replicate 5 0) 47) := hp'.res
          clear hp hp' hl hr hcy hco e1 e2 hd hdn
          have HO : Hid (Below w.heap.size w wr) := ho
          clear ho
          go_wp2
          refine bodyPost_ret (v := .agg (VI .u64 [(x0 + 19 * c) % 2251799813685248, x1 + (x0 + 19 * c) / 2251799813685248, x2, x3, x4])) ?_ rfl ⟨by rw [HE.out]; rfl, ((((((((HO.out.setCell (by simp) _).setCell (by simp) _).setCell (by simp) _).setCell (by simp; omega) _).setCell (by simp; omega) _).setCell (by simp; omega) _).setCell (by simp; omega) _).setCell (by simp; omega) _)⟩
          exact results_cell_row (P := Try.prog) (fn := Try.f59) (p := 4) (ty := 47) rfl _ _ (w.heap.size + 1 + 1) 47 (VI .u64 [(x0 + 19 * c) % 2251799813685248, x1 + (x0 + 19 * c) / 2251799813685248, x2, x3, x4]) (0, 0) _ rfl (row_set (row_set (row_set (row_set (row_set (row_other (row_other (row_other HRS.out (by simp) _) (by simp) _) (by simp) _) 0 _) 1 _) 2 _) 3 _) 4 _) Try.underlying47 rfl infoE
end Go.Proofs.Ytacofgmnmofkpaa
