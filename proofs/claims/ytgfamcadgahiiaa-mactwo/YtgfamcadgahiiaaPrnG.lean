import Derived.Test.YtgfamcadgahiiaaPrnF
namespace Go.Proofs.Ytgfamcadgahiiaa
set_option linter.unusedSimpArgs false
open Go.ChangeShapes Go.WideShapes Go.ChangeAt Go.RowKit Go.Pin Go.Prm
theorem Bx.setAny {w0 W : World} {bx : List (Nat × Obj)} {g : Nat} {c c' : Array Value} {T : TypeId} (h : Bx w0 ((g, .cells c T) :: bx) W) (hn : ∀ p ∈ bx, p.1 ≠ g) (i : Nat) (v : Value) (he : c.setIfInBounds i v = c') : Bx w0 ((g, .cells c' T) :: bx) (W.setCell ⟨g, i, none⟩ v) := by
  have hg := h.ge (g, .cells c T) (by simp)
  refine ⟨h.old.setCell hg _, fun p hp => ?_, fun p hp => ?_⟩
  · rcases List.mem_cons.1 hp with rfl | hp
    · rw [← he]; exact heap_setCell_same W _ _ _ _ _ (h.row (by simp))
    · exact row_other (h.rows p (by simp [hp])) (hn p hp) _
  · rcases List.mem_cons.1 hp with rfl | hp
    · exact hg
    · exact h.ge p (by simp [hp])
theorem Bx.setI {w0 W : World} {bx : List (Nat × Obj)} {g : Nat} {l : List Int} {T : TypeId} {k : IntKind} (h : Bx w0 ((g, .cells (VI k l) T) :: bx) W) (hn : ∀ p ∈ bx, p.1 ≠ g) (i : Nat) (v : Int) : Bx w0 ((g, .cells (VI k (l.set i v)) T) :: bx) (W.setCell ⟨g, i, none⟩ (.int k v)) := h.setAny hn i _ (VI_set _ _ _ _)
theorem Bx.cellK {w0 W : World} {bx : List (Nat × Obj)} (h : Bx w0 bx W) {g : Nat} {l : List Int} {T : TypeId} {k : IntKind} (hp : (g, .cells (VI k l) T) ∈ bx) {i : Nat} (hi : i < l.length) : W.cell? ⟨g, i, none⟩ = some (.int k (l.getD i 0)) := by
  rw [cell_of_row W _ _ _ _ _ (h.row hp), VI_at _ _ _ hi]
theorem Bx.froz {w0 W : World} {bx : List (Nat × Obj)} (h : Bx w0 bx W) {g : Nat} {c : Array Value} {T : TypeId} (hp : (g, .cells c T) ∈ bx) (i : Nat) : W.frozen? ⟨g, i, none⟩ = false := frozen_of_row W _ _ _ _ (h.row hp)
theorem rd_box {W : World} {g : Nat} {l : List Int} {T : TypeId} (h : W.heap[g]? = some (.cells (VI .i64 l) T (0, 0))) (n : Nat) (hn : l.length = n) : Rd W (.slice (some ⟨g, 0, none⟩) n n) l := by
  subst hn
  exact ⟨_, _, rfl, Nat.le_refl _, .inr ⟨g, rfl, heap_lt h, fun j hj => by rw [cell_of_row W _ _ _ _ _ h, VI_at _ _ _ hj]⟩⟩
theorem mk33 (w : World) : (Instr.makeSlice 55 (.int .i64 33) (.int .i64 33)).run Try.prog w = .ok (.slice (some ⟨w.heap.size, 0, none⟩) 33 33) (w.alloc (.cells (VI .i64 (List.replicate 33 0)) 3)) := mk_n 33 (by decide) w
theorem bts_at' (n k : Nat) (hk : k < 17) : (bts n).getD k 0 = (bts n)[k]'(by simpa using hk) := by rw [List.getD_eq_getElem?_getD, List.getElem?_eq_getElem (by simpa using hk)]; rfl
theorem infoBts (n : Nat) : (Try.prog.info? 91).map (·.size) = some (VI .i64 (bts n)).size := by rw [VI_size, bts_len]; exact infoNum
theorem VB_zip (a b : List Int) (h : a.length = b.length) : VB (List.zipWith (· + ·) a b) = VB a + VB b := by
  induction a generalizing b with
  | nil => cases b with | nil => rfl | cons _ _ => simp at h
  | cons x a ih =>
    cases b with
    | nil => simp at h
    | cons y b =>
      have := ih b (by simpa using h)
      simp only [List.zipWith_cons_cons, VB_cons, this]
      omega
set_option maxRecDepth 100000 in
set_option maxHeartbeats 4000000 in
theorem rblock_any (b : List Int) (hb : Key17 b) (w : World) :
    Calls Try.prog 43 #[.agg (VI .u8 b)] w fun e w' => e = .returned (.agg (VI .i64 (bts (nb b % P)))) ∧ Below w.heap.size w w' := by
  have hX := bx3 w (.cells (VI .u8 b) 67) (.cells (VI .i64 (List.replicate 17 0)) 91) (.cells (VI .i64 (List.replicate 17 0)) 3)
  obtain ⟨n, hn⟩ : ∃ n, w.heap.size = n := ⟨_, rfl⟩
  obtain ⟨V0, hV0⟩ : ∃ V, (w.alloc (.cells (VI .u8 b) 67)).alloc (.cells (VI .i64 (List.replicate 17 0)) 91) = V := ⟨_, rfl⟩
  have hV0' : (w.alloc (.cells (VI .u8 b) 67)).alloc (.cells #[.int .i64 0, .int .i64 0, .int .i64 0, .int .i64 0, .int .i64 0, .int .i64 0, .int .i64 0, .int .i64 0, .int .i64 0, .int .i64 0, .int .i64 0, .int .i64 0, .int .i64 0, .int .i64 0, .int .i64 0, .int .i64 0, .int .i64 0] 91) = V0 := hV0
  have hs0 : V0.heap.size = n + 2 := by rw [← hV0]; simp [hn]
  have hmk := mk17 V0
  rw [hV0] at hX
  obtain ⟨V1, hV1⟩ : ∃ V, V0.alloc (.cells (VI .i64 (List.replicate 17 0)) 3) = V := ⟨_, rfl⟩
  rw [hV1, hs0] at hmk
  rw [hV1, hn] at hX
  have HX : Hid (Bx w [(n + 2, .cells (VI .i64 (List.replicate 17 0)) 3), (n + 1, .cells (VI .i64 (List.replicate 17 0)) 91), (n, .cells (VI .u8 b) 67)] V1) := hX
  have HB : Hid (Key17 b) := hb
  have HNE : Hid (∀ p ∈ ([(n + 1, .cells (VI .i64 (List.replicate 17 0)) 91), (n, .cells (VI .u8 b) 67)] : List (Nat × Obj)), p.1 ≠ n + 2) := by
    have : ∀ p ∈ ([(n + 1, .cells (VI .i64 (List.replicate 17 0)) 91), (n, .cells (VI .u8 b) 67)] : List (Nat × Obj)), p.1 ≠ n + 2 := by
      simp only [List.mem_cons, List.not_mem_nil, or_false, forall_eq_or_imp, forall_eq]
      omega
    exact this
  clear hX hb hV0 hV1 hs0
  go_enter Try.func43, Try.ntmps43
  go_wp2
  go_loopw [4] (fun i w' => ∃ k : Nat, k ≤ 17 ∧ i = .int .i64 k ∧ Bx w [(n + 2, .cells (VI .i64 (b.take k ++ (List.replicate 17 (0 : Int)).drop k)) 3), (n + 1, .cells (VI .i64 (List.replicate 17 0)) 91), (n, .cells (VI .u8 b) 67)] w') (fun i _ => 17 - (intOf i).toNat)
  case atStart => exact ⟨0, Nat.zero_le _, rfl, HX.out⟩
  case round =>
    clear HX hV0' hmk
    obtain ⟨k, hk, rfl, hp⟩ := hrel
    by_cases hlt : k < 17
    · have hkb : k < b.length := by rw [HB.out.len]; exact hlt
      have hcb := hp.cellK (g := n) (l := b) (T := 67) (k := .u8) (by simp) (i := k) hkb
      have hcd := hp.cellK (g := n + 2) (List.mem_cons_self ..) (i := k) (by simp; omega)
      have hfz := hp.froz (g := n + 2) (List.mem_cons_self ..) k
      obtain ⟨y0, y1⟩ := byte_at HB.out.bd k
      have hst := hp.setI HNE.out k b[k]
      rw [set_step _ _ _ hkb (by simpa using hlt)] at hst
      have hge : b[k] = b.getD k 0 := by rw [List.getD_eq_getElem?_getD, List.getElem?_eq_getElem hkb]; rfl
      rw [hge] at hst
      have HST : Hid _ := hst
      clear hp hst hge
      generalize b.getD k 0 = x at *
      generalize List.getD _ k 0 = z at hcd
      go_wp2
      go_roundw
      case rel => exact ⟨k + 1, by omega, by go_num, HST.out⟩
      case measure => simp [intOf]; omega
    · have hk' : k = 17 := by omega
      subst hk'
      rw [List.take_of_length_le (by rw [HB.out.len]; omega), List.drop_of_length_le (by simp), List.append_nil] at hp
      have HX : Hid (Bx w [(n + 2, .cells (VI .i64 b) 3), (n + 1, .cells (VI .i64 (List.replicate 17 0)) 91), (n, .cells (VI .u8 b) 67)] wr) := hp
      have hL := rleast_any (.slice (some ⟨n + 2, 0, none⟩) 17 17) b wr (rd_box (hp.row (g := n + 2) (x := .cells (VI .i64 b) 3) (by simp)) 17 HB.out.len) (by rw [HB.out.len]; omega) (fun x hx => by have := HB.out.bd x hx; omega)
      rw [VB_nb HB.out.len HB.out.bd, Int.toNat_natCast] at hL
      have HL : Hid (Calls Try.prog 56 #[.slice (some ⟨n + 2, 0, none⟩) 17 17] wr fun e w' => e = .returned (.agg (VI .i64 (bts (nb b % P)))) ∧ Below wr.heap.size wr w') := hL
      obtain ⟨r, hr⟩ : ∃ r, nb b % P = r := ⟨_, rfl⟩
      rw [hr] at HL
      have HR : Hid (nb b % P = r) := hr
      clear hp hL hlt hk hr
      rw [show ((17 : Nat) : Int) = 17 from rfl]
      go_wp2_with (first | (go_at_call 56; refine HL.out.mono ?_; rintro e w2 ⟨rfl, hb2⟩; have X2 : Hid _ := HX.out.below hb2; clear hb2) | (with_reducible refine at_list ?_; refine wpList_store_row rfl 91 (.tmp 2) (.tmp 18) rfl (n + 1) (VI .i64 (bts r)) rfl rfl 91 (VI .i64 (List.replicate 17 0)) (X2.out.row (by simp)) (infoBts r) (by simp) (VI_one _ _) ?_))
      refine bodyPost_ret (v := .agg (VI .i64 (bts r))) ?_ rfl ⟨by rw [HR.out], by have := below_setRow X2.out.old (n + 1) (by omega) (VI .i64 (bts r)); exact this⟩
      exact results_cell_row (P := Try.prog) (fn := Try.f43) (p := 2) (ty := 91) rfl _ _ (n + 1) 91 (VI .i64 (bts r)) (0, 0) _ rfl (setRow_heap w2 _ _ _ 91 _ (X2.out.row (x := .cells (VI .i64 (List.replicate 17 0)) 91) (by simp))) Try.underlying91 rfl (infoBts r)
theorem zip_len (a b : Nat) : (List.zipWith (· + ·) (bts a) (bts b)).length = 17 := by simp
set_option maxRecDepth 100000 in
set_option maxHeartbeats 4000000 in
theorem radd_any (a b : Nat) (ha : a < P) (hb : b < P) (w : World) :
    Calls Try.prog 42 #[.agg (VI .i64 (bts a)), .agg (VI .i64 (bts b))] w fun e w' => e = .returned (.agg (VI .i64 (bts ((a + b) % P)))) ∧ Below w.heap.size w w' := by
  have HZ : Hid (VB (List.zipWith (· + ·) (bts a) (bts b)) = ((a + b : Nat) : Int)) := by
    rw [VB_zip _ _ (by simp), bts_VB (Nat.lt_trans ha (by decide)), bts_VB (Nat.lt_trans hb (by decide))]
    exact (Int.natCast_add a b).symm
  have hX0 := ((bx3 w (.cells (VI .i64 (bts a)) 91) (.cells (VI .i64 (bts b)) 91) (.cells (VI .i64 (List.replicate 17 0)) 91)).new (.cells (VI .i64 (List.replicate 17 0)) 3))
  rw [size_alloc, size_alloc, size_alloc] at hX0
  obtain ⟨n, hn⟩ : ∃ n, w.heap.size = n := ⟨_, rfl⟩
  obtain ⟨V0, hV0⟩ : ∃ V, ((w.alloc (.cells (VI .i64 (bts a)) 91)).alloc (.cells (VI .i64 (bts b)) 91)).alloc (.cells (VI .i64 (List.replicate 17 0)) 91) = V := ⟨_, rfl⟩
  have hV0' : ((w.alloc (.cells (VI .i64 (bts a)) 91)).alloc (.cells (VI .i64 (bts b)) 91)).alloc (.cells #[.int .i64 0, .int .i64 0, .int .i64 0, .int .i64 0, .int .i64 0, .int .i64 0, .int .i64 0, .int .i64 0, .int .i64 0, .int .i64 0, .int .i64 0, .int .i64 0, .int .i64 0, .int .i64 0, .int .i64 0, .int .i64 0, .int .i64 0] 91) = V0 := hV0
  have hs0 : V0.heap.size = n + 3 := by rw [← hV0]; simp [hn]
  have hmk := mk17 V0
  rw [hV0] at hX0
  obtain ⟨V1, hV1⟩ : ∃ V, V0.alloc (.cells (VI .i64 (List.replicate 17 0)) 3) = V := ⟨_, rfl⟩
  rw [hV1, hs0] at hmk
  rw [hV1, hn] at hX0
  have HX : Hid (Bx w [(n + 3, .cells (VI .i64 (List.replicate 17 0)) 3), (n + 2, .cells (VI .i64 (List.replicate 17 0)) 91), (n + 1, .cells (VI .i64 (bts b)) 91), (n, .cells (VI .i64 (bts a)) 91)] V1) := hX0
  have HNE : Hid (∀ p ∈ ([(n + 2, .cells (VI .i64 (List.replicate 17 0)) 91), (n + 1, .cells (VI .i64 (bts b)) 91), (n, .cells (VI .i64 (bts a)) 91)] : List (Nat × Obj)), p.1 ≠ n + 3) := by
    have : ∀ p ∈ ([(n + 2, .cells (VI .i64 (List.replicate 17 0)) 91), (n + 1, .cells (VI .i64 (bts b)) 91), (n, .cells (VI .i64 (bts a)) 91)] : List (Nat × Obj)), p.1 ≠ n + 3 := by
      simp only [List.mem_cons, List.not_mem_nil, or_false, forall_eq_or_imp, forall_eq]
      omega
    exact this
  clear hX0 hV0 hV1 hs0
  go_enter Try.func42, Try.ntmps42
  go_wp2
  go_loopw [6] (fun i w' => ∃ k : Nat, k ≤ 17 ∧ i = .int .i64 k ∧ Bx w [(n + 3, .cells (VI .i64 ((List.zipWith (· + ·) (bts a) (bts b)).take k ++ (List.replicate 17 (0 : Int)).drop k)) 3), (n + 2, .cells (VI .i64 (List.replicate 17 0)) 91), (n + 1, .cells (VI .i64 (bts b)) 91), (n, .cells (VI .i64 (bts a)) 91)] w') (fun i _ => 17 - (intOf i).toNat)
  case atStart => exact ⟨0, Nat.zero_le _, rfl, HX.out⟩
  case round =>
    clear HX hV0' hmk
    obtain ⟨k, hk, rfl, hp⟩ := hrel
    by_cases hlt : k < 17
    · have hca := hp.cellK (g := n) (l := bts a) (T := 91) (k := .i64) (by simp) (i := k) (by simpa using hlt)
      have hcb := hp.cellK (g := n + 1) (l := bts b) (T := 91) (k := .i64) (by simp) (i := k) (by simpa using hlt)
      have hcd := hp.cellK (g := n + 3) (List.mem_cons_self ..) (i := k) (by simp; omega)
      have hfz := hp.froz (g := n + 3) (List.mem_cons_self ..) k
      obtain ⟨y0, y1⟩ := byte_at (bts_bd a) k
      obtain ⟨z0, z1⟩ := byte_at (bts_bd b) k
      have hst := hp.setI HNE.out k ((List.zipWith (· + ·) (bts a) (bts b))[k]'(by rw [zip_len]; exact hlt))
      rw [set_step _ _ _ (by rw [zip_len]; exact hlt) (by simpa using hlt), List.getElem_zipWith, ← bts_at' a k hlt, ← bts_at' b k hlt] at hst
      have HST : Hid _ := hst
      clear hp hst
      generalize (bts a).getD k 0 = x at *
      generalize (bts b).getD k 0 = y at *
      generalize List.getD _ k 0 = z at hcd
      go_wp2
      go_region
      go_wp2
      go_roundw
      case rel => exact ⟨k + 1, by omega, by go_num, HST.out.drew⟩
      case measure => simp [intOf]; omega
    · have hk' : k = 17 := by omega
      subst hk'
      rw [List.take_of_length_le (by simp), List.drop_of_length_le (by simp), List.append_nil] at hp
      have HX2 : Hid (Bx w [(n + 3, .cells (VI .i64 (List.zipWith (· + ·) (bts a) (bts b))) 3), (n + 2, .cells (VI .i64 (List.replicate 17 0)) 91), (n + 1, .cells (VI .i64 (bts b)) 91), (n, .cells (VI .i64 (bts a)) 91)] wr) := hp
      have hL := rleast_any (.slice (some ⟨n + 3, 0, none⟩) 17 17) (List.zipWith (· + ·) (bts a) (bts b)) wr (rd_box (hp.row (g := n + 3) (x := .cells (VI .i64 (List.zipWith (· + ·) (bts a) (bts b))) 3) (by simp)) 17 (zip_len a b)) (by rw [zip_len]; omega) (fun x hx => by
        obtain ⟨i, hi, rfl⟩ := List.getElem_of_mem hx
        rw [List.getElem_zipWith]
        have h1 := bts_bd a _ (List.getElem_mem (l := bts a) (n := i) (by simpa using hi))
        have h2 := bts_bd b _ (List.getElem_mem (l := bts b) (n := i) (by simpa using hi))
        omega)
      rw [HZ.out, Int.toNat_natCast] at hL
      have HL : Hid (Calls Try.prog 56 #[.slice (some ⟨n + 3, 0, none⟩) 17 17] wr fun e w' => e = .returned (.agg (VI .i64 (bts ((a + b) % P)))) ∧ Below wr.heap.size wr w') := hL
      obtain ⟨r, hr⟩ : ∃ r, (a + b) % P = r := ⟨_, rfl⟩
      rw [hr] at HL
      have HR : Hid ((a + b) % P = r) := hr
      clear hp hL hlt hk hr
      rw [show ((17 : Nat) : Int) = 17 from rfl]
      go_wp2_with (first | (go_at_call 56; refine HL.out.mono ?_; rintro e w2 ⟨rfl, hb2⟩; have X2 : Hid _ := HX2.out.below hb2; clear hb2) | (with_reducible refine at_list ?_; refine wpList_store_row rfl 91 (.tmp 4) (.tmp 23) rfl (n + 2) (VI .i64 (bts r)) rfl rfl 91 (VI .i64 (List.replicate 17 0)) (X2.out.row (by simp)) (infoBts r) (by simp) (VI_one _ _) ?_))
      refine bodyPost_ret (v := .agg (VI .i64 (bts r))) ?_ rfl ⟨by rw [HR.out], by have := below_setRow X2.out.old (n + 2) (by omega) (VI .i64 (bts r)); exact this⟩
      exact results_cell_row (P := Try.prog) (fn := Try.f42) (p := 4) (ty := 91) rfl _ _ (n + 2) 91 (VI .i64 (bts r)) (0, 0) _ rfl (setRow_heap w2 _ _ _ 91 _ (X2.out.row (x := .cells (VI .i64 (List.replicate 17 0)) 91) (by simp))) Try.underlying91 rfl (infoBts r)
/-- what Mul's row is worth, behind i rows and k numbers -/
structure Mk (a b : Nat) (i k : Nat) (D : List Int) : Prop where
  len : D.length = 33
  bd : ∀ x ∈ D, 0 ≤ x ∧ x ≤ 65025 * ((17 * i + k : Nat) : Int)
  val : VB D = VB ((bts a).take i) * VB (bts b) + (256 : Int) ^ i * ((bts a).getD i 0 * VB ((bts b).take k))
theorem Mk.zero (a b : Nat) : Mk a b 0 0 (List.replicate 33 0) := ⟨by simp, fun x hx => by rw [(List.mem_replicate.1 hx).2]; omega, by
  have := VB_zeros [] 33
  rw [List.nil_append] at this
  rw [this]
  simp [VB]⟩
theorem Mk.at {a b i k : Nat} {D : List Int} (h : Mk a b i k D) (j : Nat) : 0 ≤ D.getD j 0 ∧ D.getD j 0 ≤ 65025 * ((17 * i + k : Nat) : Int) := by
  by_cases hj : j < D.length
  · rw [List.getD_eq_getElem?_getD, List.getElem?_eq_getElem hj]; exact h.bd _ (List.getElem_mem hj)
  · rw [List.getD_eq_getElem?_getD, List.getElem?_eq_none (by omega)]; simp; omega
theorem Mk.step {a b i k : Nat} {D : List Int} (h : Mk a b i k D) (hi : i < 17) (hk : k < 17) : Mk a b i (k + 1) (D.set (i + k) (D.getD (i + k) 0 + (bts a).getD i 0 * (bts b).getD k 0)) := by
  have ha := byte_at (bts_bd a) i
  have hb := byte_at (bts_bd b) k
  have hd := h.at (i + k)
  have hp : 0 ≤ (bts a).getD i 0 * (bts b).getD k 0 ∧ (bts a).getD i 0 * (bts b).getD k 0 ≤ 65025 := by
    refine ⟨Int.mul_nonneg ha.1 hb.1, ?_⟩
    have h1 : (bts a).getD i 0 * (bts b).getD k 0 ≤ 255 * (bts b).getD k 0 := Int.mul_le_mul_of_nonneg_right (by omega) hb.1
    omega
  refine ⟨by rw [List.length_set]; exact h.len, fun x hx => ?_, ?_⟩
  · rcases List.mem_or_eq_of_mem_set hx with hx | rfl
    · have := h.bd x hx; omega
    · omega
  · rw [VB_set _ _ _ (by rw [h.len]; omega), h.val, VB_take_succ _ _ (by simpa using hk), Int.pow_add]
    grind
theorem Mk.next {a b i : Nat} {D : List Int} (h : Mk a b i 17 D) (hi : i < 17) : Mk a b (i + 1) 0 D := by
  refine ⟨h.len, fun x hx => by have := h.bd x hx; omega, ?_⟩
  rw [h.val, VB_take_succ (bts a) i (by simpa using hi), List.take_of_length_le (l := bts b) (by simp)]
  simp only [List.take_zero, VB_nil, Int.mul_zero, Int.add_zero]
  rw [Int.add_mul, Int.mul_assoc]
set_option maxRecDepth 100000 in
set_option maxHeartbeats 4000000 in
theorem rmul_any (a b : Nat) (ha : a < P) (hb : b < P) (w : World) :
    Calls Try.prog 41 #[.agg (VI .i64 (bts a)), .agg (VI .i64 (bts b))] w fun e w' => e = .returned (.agg (VI .i64 (bts (a * b % P)))) ∧ Below w.heap.size w w' := by
  have HZ : Hid (∀ D, Mk a b 17 0 D → VB D = ((a * b : Nat) : Int)) := fun D h => by
    rw [h.val, List.take_of_length_le (by simp), bts_VB (Nat.lt_trans ha (by decide)), bts_VB (Nat.lt_trans hb (by decide))]
    simp [VB]
  have hX0 := ((bx3 w (.cells (VI .i64 (bts a)) 91) (.cells (VI .i64 (bts b)) 91) (.cells (VI .i64 (List.replicate 17 0)) 91)).new (.cells (VI .i64 (List.replicate 33 0)) 3))
  rw [size_alloc, size_alloc, size_alloc] at hX0
  obtain ⟨n, hn⟩ : ∃ n, w.heap.size = n := ⟨_, rfl⟩
  obtain ⟨V0, hV0⟩ : ∃ V, ((w.alloc (.cells (VI .i64 (bts a)) 91)).alloc (.cells (VI .i64 (bts b)) 91)).alloc (.cells (VI .i64 (List.replicate 17 0)) 91) = V := ⟨_, rfl⟩
  have hV0' : ((w.alloc (.cells (VI .i64 (bts a)) 91)).alloc (.cells (VI .i64 (bts b)) 91)).alloc (.cells #[.int .i64 0, .int .i64 0, .int .i64 0, .int .i64 0, .int .i64 0, .int .i64 0, .int .i64 0, .int .i64 0, .int .i64 0, .int .i64 0, .int .i64 0, .int .i64 0, .int .i64 0, .int .i64 0, .int .i64 0, .int .i64 0, .int .i64 0] 91) = V0 := hV0
  have hs0 : V0.heap.size = n + 3 := by rw [← hV0]; simp [hn]
  have hmk := mk33 V0
  rw [hV0] at hX0
  obtain ⟨V1, hV1⟩ : ∃ V, V0.alloc (.cells (VI .i64 (List.replicate 33 0)) 3) = V := ⟨_, rfl⟩
  rw [hV1, hs0] at hmk
  rw [hV1, hn] at hX0
  have HX : Hid (Bx w [(n + 3, .cells (VI .i64 (List.replicate 33 0)) 3), (n + 2, .cells (VI .i64 (List.replicate 17 0)) 91), (n + 1, .cells (VI .i64 (bts b)) 91), (n, .cells (VI .i64 (bts a)) 91)] V1) := hX0
  have HNE : Hid (∀ p ∈ ([(n + 2, .cells (VI .i64 (List.replicate 17 0)) 91), (n + 1, .cells (VI .i64 (bts b)) 91), (n, .cells (VI .i64 (bts a)) 91)] : List (Nat × Obj)), p.1 ≠ n + 3) := by
    have : ∀ p ∈ ([(n + 2, .cells (VI .i64 (List.replicate 17 0)) 91), (n + 1, .cells (VI .i64 (bts b)) 91), (n, .cells (VI .i64 (bts a)) 91)] : List (Nat × Obj)), p.1 ≠ n + 3 := by
      simp only [List.mem_cons, List.not_mem_nil, or_false, forall_eq_or_imp, forall_eq]
      omega
    exact this
  clear hX0 hV0 hV1 hs0
  go_enter Try.func41, Try.ntmps41
  go_wp2
  go_loopw [6] (fun i w' => ∃ (k : Nat) (D : List Int), k ≤ 17 ∧ i = .int .i64 k ∧ Mk a b k 0 D ∧ Bx w [(n + 3, .cells (VI .i64 D) 3), (n + 2, .cells (VI .i64 (List.replicate 17 0)) 91), (n + 1, .cells (VI .i64 (bts b)) 91), (n, .cells (VI .i64 (bts a)) 91)] w') (fun i _ => 17 - (intOf i).toNat)
  case atStart => exact ⟨0, _, Nat.zero_le _, rfl, Mk.zero a b, HX.out⟩
  case round =>
    clear HX hV0' hmk
    obtain ⟨i, D, hi, rfl, hM, hp⟩ := hrel
    by_cases hlt : i < 17
    · have HM : Hid (Mk a b i 0 D) := hM
      have HP : Hid (Bx w [(n + 3, .cells (VI .i64 D) 3), (n + 2, .cells (VI .i64 (List.replicate 17 0)) 91), (n + 1, .cells (VI .i64 (bts b)) 91), (n, .cells (VI .i64 (bts a)) 91)] wr) := hp
      clear hM hp
      go_wp2
      go_loopw [7] (fun j w' => ∃ (k : Nat) (D : List Int), k ≤ 17 ∧ j = .int .i64 k ∧ Mk a b i k D ∧ Bx w [(n + 3, .cells (VI .i64 D) 3), (n + 2, .cells (VI .i64 (List.replicate 17 0)) 91), (n + 1, .cells (VI .i64 (bts b)) 91), (n, .cells (VI .i64 (bts a)) 91)] w') (fun i _ => 17 - (intOf i).toNat)
      case atStart => exact ⟨0, D, Nat.zero_le _, rfl, HM.out, HP.out⟩
      case round =>
        clear HM HP
        obtain ⟨k, D2, hk, rfl, hM, hp⟩ := hrel
        by_cases hlt2 : k < 17
        · have hca := hp.cellK (g := n) (l := bts a) (T := 91) (k := .i64) (by simp) (i := i) (by simpa using hlt)
          have hcb := hp.cellK (g := n + 1) (l := bts b) (T := 91) (k := .i64) (by simp) (i := k) (by simpa using hlt2)
          have hcd := hp.cellK (g := n + 3) (l := D2) (T := 3) (k := .i64) (by simp) (i := i + k) (by rw [hM.len]; omega)
          have hfz := hp.froz (g := n + 3) (List.mem_cons_self ..) (i + k)
          obtain ⟨y0, y1⟩ := byte_at (bts_bd a) i
          obtain ⟨z0, z1⟩ := byte_at (bts_bd b) k
          obtain ⟨d0, d1⟩ := hM.at (i + k)
          have hp0 : 0 ≤ (bts a).getD i 0 * (bts b).getD k 0 ∧ (bts a).getD i 0 * (bts b).getD k 0 ≤ 65025 := by
            refine ⟨Int.mul_nonneg y0 z0, ?_⟩
            have h1 : (bts a).getD i 0 * (bts b).getD k 0 ≤ 255 * (bts b).getD k 0 := Int.mul_le_mul_of_nonneg_right (by omega) z0
            omega
          have hst := hp.setI HNE.out (i + k) (D2.getD (i + k) 0 + (bts a).getD i 0 * (bts b).getD k 0)
          have HST : Hid (Bx w [(n + 3, .cells (VI .i64 (D2.set (i + k) (D2.getD (i + k) 0 + (bts a).getD i 0 * (bts b).getD k 0))) 3), (n + 2, .cells (VI .i64 (List.replicate 17 0)) 91), (n + 1, .cells (VI .i64 (bts b)) 91), (n, .cells (VI .i64 (bts a)) 91)] (wr.setCell ⟨n + 3, i + k, none⟩ (.int .i64 (D2.getD (i + k) 0 + (bts a).getD i 0 * (bts b).getD k 0)))) := hst
          have HMS : Hid (Mk a b i (k + 1) (D2.set (i + k) (D2.getD (i + k) 0 + (bts a).getD i 0 * (bts b).getD k 0))) := hM.step hlt hlt2
          obtain ⟨j, hj⟩ : ∃ j : Nat, j = i + k := ⟨_, rfl⟩
          have hj' : (i : Int) + (k : Int) = (j : Int) := by omega
          have hj33 : j < 33 := by omega
          have hj33' : (j : Int) < 33 := by omega
          rw [← hj] at hcd hfz HST HMS d0 d1
          clear hp hst hM hj
          generalize (bts a).getD i 0 = x at *
          generalize (bts b).getD k 0 = y at *
          generalize D2.getD j 0 = z at *
          obtain ⟨p0, p1⟩ := hp0
          have hw1 : IntKind.i64.wrap (x * y) = x * y := by rw [IntKind.wrap_i64]; omega
          have hw2 : IntKind.i64.wrap (z + x * y) = z + x * y := by rw [IntKind.wrap_i64]; omega
          clear y0 y1 z0 z1 d0 d1 p0 p1
          go_wp2
          go_region
          go_wp2
          go_roundw
          case rel => exact ⟨k + 1, _, by omega, by go_num, HMS.out, HST.out.drew⟩
          case measure => simp [intOf]; omega
        · have hk' : k = 17 := by omega
          subst hk'
          have HM : Hid (Mk a b (i + 1) 0 D2) := hM.next hlt
          have HP : Hid (Bx w [(n + 3, .cells (VI .i64 D2) 3), (n + 2, .cells (VI .i64 (List.replicate 17 0)) 91), (n + 1, .cells (VI .i64 (bts b)) 91), (n, .cells (VI .i64 (bts a)) 91)] wr) := hp
          clear hM hp
          rw [show ((17 : Nat) : Int) = 17 from rfl]
          go_wp2
          go_roundw
          case rel => exact ⟨i + 1, D2, by omega, by go_num, HM.out, HP.out⟩
          case measure => simp [intOf]; omega
    · have hi' : i = 17 := by omega
      subst hi'
      have HX2 : Hid (Bx w [(n + 3, .cells (VI .i64 D) 3), (n + 2, .cells (VI .i64 (List.replicate 17 0)) 91), (n + 1, .cells (VI .i64 (bts b)) 91), (n, .cells (VI .i64 (bts a)) 91)] wr) := hp
      have hL := rleast_any (.slice (some ⟨n + 3, 0, none⟩) 33 33) D wr (rd_box (hp.row (g := n + 3) (x := .cells (VI .i64 D) 3) (by simp)) 33 hM.len) (by rw [hM.len]; omega) (fun x hx => by have := hM.bd x hx; omega)
      rw [HZ.out D hM, Int.toNat_natCast] at hL
      have HL : Hid (Calls Try.prog 56 #[.slice (some ⟨n + 3, 0, none⟩) 33 33] wr fun e w' => e = .returned (.agg (VI .i64 (bts (a * b % P)))) ∧ Below wr.heap.size wr w') := hL
      obtain ⟨r, hr⟩ : ∃ r, a * b % P = r := ⟨_, rfl⟩
      rw [hr] at HL
      have HR : Hid (a * b % P = r) := hr
      clear hp hL hlt hi hr hM
      rw [show ((17 : Nat) : Int) = 17 from rfl]
      go_wp2_with (first | (go_at_call 56; refine HL.out.mono ?_; rintro e w2 ⟨rfl, hb2⟩; have X2 : Hid _ := HX2.out.below hb2; clear hb2) | (with_reducible refine at_list ?_; refine wpList_store_row rfl 91 (.tmp 4) (.tmp 37) rfl (n + 2) (VI .i64 (bts r)) rfl rfl 91 (VI .i64 (List.replicate 17 0)) (X2.out.row (by simp)) (infoBts r) (by simp) (VI_one _ _) ?_))
      refine bodyPost_ret (v := .agg (VI .i64 (bts r))) ?_ rfl ⟨by rw [HR.out], by have := below_setRow X2.out.old (n + 2) (by omega) (VI .i64 (bts r)); exact this⟩
      exact results_cell_row (P := Try.prog) (fn := Try.f41) (p := 4) (ty := 91) rfl _ _ (n + 2) 91 (VI .i64 (bts r)) (0, 0) _ rfl (setRow_heap w2 _ _ _ 91 _ (X2.out.row (x := .cells (VI .i64 (List.replicate 17 0)) 91) (by simp))) Try.underlying91 rfl (infoBts r)
end Go.Proofs.Ytgfamcadgahiiaa
