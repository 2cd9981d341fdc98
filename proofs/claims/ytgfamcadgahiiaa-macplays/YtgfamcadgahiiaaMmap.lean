import Derived.Test.YtgfamcadgahiiaaMmao
import Derived.Test.YtgfamcadgahiiaaMmac
import Derived.Test.YtgfamcadgahiiaaMman
namespace Go.Proofs.Ytgfamcadgahiiaa
set_option linter.unusedSimpArgs false
open Go.ChangeShapes Go.WideShapes Go.ChangeAt Go.RowKit Go.Pin Go.Prm
theorem Bx.setAny {w0 W : World} {bx : List (Nat × Obj)} {g : Nat} {c c' : Array Value} {T : TypeId} (h : Bx w0 ((g, .cells c T) :: bx) W) (hn : ∀ p ∈ bx, p.1 ≠ g) (i : Nat) (v : Value) (he : c.setIfInBounds i v = c') : Bx w0 ((g, .cells c' T) :: bx) (W.setCell ⟨g, i, none⟩ v) := by
  have hg := h.ge (g, .cells c T) (by simp)
  refine ⟨h.old.setCell hg _, fun p hp => ?_, fun p hp => ?_⟩
  · rcases List.mem_cons.1 hp with rfl | hp
    · rw [← he]; exact heap_setCell_same W _ _ _ _ _ (h.row (by simp))
    · exact row_other (h.rows p (by simp [hp])) (hn p hp) _
  · rcases List.mem_cons.1 hp with rfl | hp
    · exact hg
    · exact h.ge p (by simp [hp])
theorem Bx.setI {w0 W : World} {bx : List (Nat × Obj)} {g : Nat} {l : List Int} {T : TypeId} {k : IntKind} (h : Bx w0 ((g, .cells (VI k l) T) :: bx) W) (hn : ∀ p ∈ bx, p.1 ≠ g) (i : Nat) (v : Int) : Bx w0 ((g, .cells (VI k (l.set i v)) T) :: bx) (W.setCell ⟨g, i, none⟩ (.int k v)) := h.setAny hn i _ (VI_set _ _ _ _)
theorem Bx.cellK {w0 W : World} {bx : List (Nat × Obj)} (h : Bx w0 bx W) {g : Nat} {l : List Int} {T : TypeId} {k : IntKind} (hp : (g, .cells (VI k l) T) ∈ bx) {i : Nat} (hi : i < l.length) : W.cell? ⟨g, i, none⟩ = some (.int k (l.getD i 0)) := by
  rw [cell_of_row W _ _ _ _ _ (h.row hp), VI_at _ _ _ hi]
theorem Bx.froz {w0 W : World} {bx : List (Nat × Obj)} (h : Bx w0 bx W) {g : Nat} {c : Array Value} {T : TypeId} (hp : (g, .cells c T) ∈ bx) (i : Nat) : W.frozen? ⟨g, i, none⟩ = false := frozen_of_row W _ _ _ _ (h.row hp)
theorem rd_box {W : World} {g : Nat} {l : List Int} {T : TypeId} (h : W.heap[g]? = some (.cells (VI .i64 l) T (0, 0))) (n : Nat) (hn : l.length = n) : Rd W (.slice (some ⟨g, 0, none⟩) n n) l := by
  subst hn
  exact ⟨_, _, rfl, Nat.le_refl _, .inr ⟨g, rfl, heap_lt h, fun j hj => by rw [cell_of_row W _ _ _ _ _ h, VI_at _ _ _ hj]⟩⟩
theorem mk33 (w : World) : (Instr.makeSlice 55 (.int .i64 33) (.int .i64 33)).run Try.prog w = .ok (.slice (some ⟨w.heap.size, 0, none⟩) 33 33) (w.alloc (.cells (VI .i64 (List.replicate 33 0)) 3)) := mk_n 33 (by decide) w
theorem bts_at' (n k : Nat) (hk : k < 17) : (bts n).getD k 0 = (bts n)[k]'(by simpa using hk) := by rw [List.getD_eq_getElem?_getD, List.getElem?_eq_getElem (by simpa using hk)]; rfl
theorem infoBts (n : Nat) : (Try.prog.info? 91).map (·.size) = some (VI .i64 (bts n)).size := by rw [VI_size, bts_len]; exact infoNum
theorem VB_zip (a b : List Int) (h : a.length = b.length) : VB (List.zipWith (· + ·) a b) = VB a + VB b := by
  induction a generalizing b with
  | nil => cases b with | nil => rfl | cons _ _ => simp at h
  | cons x a ih =>
    cases b with
    | nil => simp at h
    | cons y b =>
      have := ih b (by simpa using h)
      simp only [List.zipWith_cons_cons, VB_cons, this]
      omega
set_option maxRecDepth 100000 in
set_option maxHeartbeats 4000000 in
theorem rblock_any (b : List Int) (hb : Key17 b) (w : World) :
    Calls Try.prog 43 #[.agg (VI .u8 b)] w fun e w' => e = .returned (.agg (VI .i64 (bts (nb b % P)))) ∧ Below w.heap.size w w' := by
  have hX := bx3 w (.cells (VI .u8 b) 67) (.cells (VI .i64 (List.replicate 17 0)) 91) (.cells (VI .i64 (List.replicate 17 0)) 3)
  obtain ⟨n, hn⟩ : ∃ n, w.heap.size = n := ⟨_, rfl⟩
  obtain ⟨V0, hV0⟩ : ∃ V, (w.alloc (.cells (VI .u8 b) 67)).alloc (.cells (VI .i64 (List.replicate 17 0)) 91) = V := ⟨_, rfl⟩
  have hV0' : (w.alloc (.cells (VI .u8 b) 67)).alloc (.cells #[.int .i64 0, .int .i64 0, .int .i64 0, .int .i64 0, .int .i64 0, .int .i64 0, .int .i64 0, .int .i64 0, .int .i64 0, .int .i64 0, .int .i64 0, .int .i64 0, .int .i64 0, .int .i64 0, .int .i64 0, .int .i64 0, .int .i64 0] 91) = V0 := hV0
  have hs0 : V0.heap.size = n + 2 := by rw [← hV0]; simp [hn]
  have hmk := mk17 V0
  rw [hV0] at hX
  obtain ⟨V1, hV1⟩ : ∃ V, V0.alloc (.cells (VI .i64 (List.replicate 17 0)) 3) = V := ⟨_, rfl⟩
  rw [hV1, hs0] at hmk
  rw [hV1, hn] at hX
  have HX : Hid (Bx w [(n + 2, .cells (VI .i64 (List.replicate 17 0)) 3), (n + 1, .cells (VI .i64 (List.replicate 17 0)) 91), (n, .cells (VI .u8 b) 67)] V1) := hX
  have HB : Hid (Key17 b) := hb
  have HNE : Hid (∀ p ∈ ([(n + 1, .cells (VI .i64 (List.replicate 17 0)) 91), (n, .cells (VI .u8 b) 67)] : List (Nat × Obj)), p.1 ≠ n + 2) := by
    have : ∀ p ∈ ([(n + 1, .cells (VI .i64 (List.replicate 17 0)) 91), (n, .cells (VI .u8 b) 67)] : List (Nat × Obj)), p.1 ≠ n + 2 := by
      simp only [List.mem_cons, List.not_mem_nil, or_false, forall_eq_or_imp, forall_eq]
      omega
    exact this
  clear hX hb hV0 hV1 hs0
  go_enter Try.func43, Try.ntmps43
  go_wp2
  go_loopw [4] (fun i w' => ∃ k : Nat, k ≤ 17 ∧ i = .int .i64 k ∧ Bx w [(n + 2, .cells (VI .i64 (b.take k ++ (List.replicate 17 (0 : Int)).drop k)) 3), (n + 1, .cells (VI .i64 (List.replicate 17 0)) 91), (n, .cells (VI .u8 b) 67)] w') (fun i _ => 17 - (intOf i).toNat)
  case atStart => exact ⟨0, Nat.zero_le _, rfl, HX.out⟩
  case round =>
    clear HX hV0' hmk
    obtain ⟨k, hk, rfl, hp⟩ := hrel
    by_cases hlt : k < 17
    · have hkb : k < b.length := by rw [HB.out.len]; exact hlt
      have hcb := hp.cellK (g := n) (l := b) (T := 67) (k := .u8) (by simp) (i := k) hkb
      have hcd := hp.cellK (g := n + 2) (List.mem_cons_self ..) (i := k) (by simp; omega)
      have hfz := hp.froz (g := n + 2) (List.mem_cons_self ..) k
      obtain ⟨y0, y1⟩ := byte_at HB.out.bd k
      have hst := hp.setI HNE.out k b[k]
      rw [set_step _ _ _ hkb (by simpa using hlt)] at hst
      have hge : b[k] = b.getD k 0 := by rw [List.getD_eq_getElem?_getD, List.getElem?_eq_getElem hkb]; rfl
      rw [hge] at hst
      have HST : Hid _ := hst
      clear hp hst hge
      generalize b.getD k 0 = x at *
      generalize List.getD _ k 0 = z at hcd
      go_wp2
      go_roundw
      case rel => exact ⟨k + 1, by omega, by go_num, HST.out⟩
      case measure => simp [intOf]; omega
    · have hk' : k = 17 := by omega
      subst hk'
      rw [List.take_of_length_le (by rw [HB.out.len]; omega), List.drop_of_length_le (by simp), List.append_nil] at hp
      have HX : Hid (Bx w [(n + 2, .cells (VI .i64 b) 3), (n + 1, .cells (VI .i64 (List.replicate 17 0)) 91), (n, .cells (VI .u8 b) 67)] wr) := hp
      have hL := rleast_any (.slice (some ⟨n + 2, 0, none⟩) 17 17) b wr (rd_box (hp.row (g := n + 2) (x := .cells (VI .i64 b) 3) (by simp)) 17 HB.out.len) (by rw [HB.out.len]; omega) (fun x hx => by have := HB.out.bd x hx; omega)
      rw [VB_nb HB.out.len HB.out.bd, Int.toNat_natCast] at hL
      have HL : Hid (Calls Try.prog 56 #[.slice (some ⟨n + 2, 0, none⟩) 17 17] wr fun e w' => e = .returned (.agg (VI .i64 (bts (nb b % P)))) ∧ Below wr.heap.size wr w') := hL
      obtain ⟨r, hr⟩ : ∃ r, nb b % P = r := ⟨_, rfl⟩
      rw [hr] at HL
      have HR : Hid (nb b % P = r) := hr
      clear hp hL hlt hk hr
      rw [show ((17 : Nat) : Int) = 17 from rfl]
      go_wp2_with (first | (go_at_call 56; refine HL.out.mono ?_; rintro e w2 ⟨rfl, hb2⟩; have X2 : Hid _ := HX.out.below hb2; clear hb2) | (with_reducible refine at_list ?_; refine wpList_store_row rfl 91 (.tmp 2) (.tmp 18) rfl (n + 1) (VI .i64 (bts r)) rfl rfl 91 (VI .i64 (List.replicate 17 0)) (X2.out.row (by simp)) (infoBts r) (by simp) (VI_one _ _) ?_))
      refine bodyPost_ret (v := .agg (VI .i64 (bts r))) ?_ rfl ⟨by rw [HR.out], by have := below_setRow X2.out.old (n + 1) (by omega) (VI .i64 (bts r)); exact this⟩
      exact results_cell_row (P := Try.prog) (fn := Try.f43) (p := 2) (ty := 91) rfl _ _ (n + 1) 91 (VI .i64 (bts r)) (0, 0) _ rfl (setRow_heap w2 _ _ _ 91 _ (X2.out.row (x := .cells (VI .i64 (List.replicate 17 0)) 91) (by simp))) Try.underlying91 rfl (infoBts r)
theorem zip_len (a b : Nat) : (List.zipWith (· + ·) (bts a) (bts b)).length = 17 := by simp
set_option maxRecDepth 100000 in
set_option maxHeartbeats 4000000 in
theorem radd_any (a b : Nat) (ha : a < P) (hb : b < P) (w : World) :
    Calls Try.prog 42 #[.agg (VI .i64 (bts a)), .agg (VI .i64 (bts b))] w fun e w' => e = .returned (.agg (VI .i64 (bts ((a + b) % P)))) ∧ Below w.heap.size w w' := by
  have HZ : Hid (VB (List.zipWith (· + ·) (bts a) (bts b)) = ((a + b : Nat) : Int)) := by
    rw [VB_zip _ _ (by simp), bts_VB (Nat.lt_trans ha (by decide)), bts_VB (Nat.lt_trans hb (by decide))]
    exact (Int.natCast_add a b).symm
  have hX0 := ((bx3 w (.cells (VI .i64 (bts a)) 91) (.cells (VI .i64 (bts b)) 91) (.cells (VI .i64 (List.replicate 17 0)) 91)).new (.cells (VI .i64 (List.replicate 17 0)) 3))
  rw [size_alloc, size_alloc, size_alloc] at hX0
  obtain ⟨n, hn⟩ : ∃ n, w.heap.size = n := ⟨_, rfl⟩
  obtain ⟨V0, hV0⟩ : ∃ V, ((w.alloc (.cells (VI .i64 (bts a)) 91)).alloc (.cells (VI .i64 (bts b)) 91)).alloc (.cells (VI .i64 (List.replicate 17 0)) 91) = V := ⟨_, rfl⟩
  have hV0' : ((w.alloc (.cells (VI .i64 (bts a)) 91)).alloc (.cells (VI .i64 (bts b)) 91)).alloc (.cells #[.int .i64 0, .int .i64 0, .int .i64 0, .int .i64 0, .int .i64 0, .int .i64 0, .int .i64 0, .int .i64 0, .int .i64 0, .int .i64 0, .int .i64 0, .int .i64 0, .int .i64 0, .int .i64 0, .int .i64 0, .int .i64 0, .int .i64 0] 91) = V0 := hV0
  have hs0 : V0.heap.size = n + 3 := by rw [← hV0]; simp [hn]
  have hmk := mk17 V0
  rw [hV0] at hX0
  obtain ⟨V1, hV1⟩ : ∃ V, V0.alloc (.cells (VI .i64 (List.replicate 17 0)) 3) = V := ⟨_, rfl⟩
  rw [hV1, hs0] at hmk
  rw [hV1, hn] at hX0
  have HX : Hid (Bx w [(n + 3, .cells (VI .i64 (List.replicate 17 0)) 3), (n + 2, .cells (VI .i64 (List.replicate 17 0)) 91), (n + 1, .cells (VI .i64 (bts b)) 91), (n, .cells (VI .i64 (bts a)) 91)] V1) := hX0
  have HNE : Hid (∀ p ∈ ([(n + 2, .cells (VI .i64 (List.replicate 17 0)) 91), (n + 1, .cells (VI .i64 (bts b)) 91), (n, .cells (VI .i64 (bts a)) 91)] : List (Nat × Obj)), p.1 ≠ n + 3) := by
    have : ∀ p ∈ ([(n + 2, .cells (VI .i64 (List.replicate 17 0)) 91), (n + 1, .cells (VI .i64 (bts b)) 91), (n, .cells (VI .i64 (bts a)) 91)] : List (Nat × Obj)), p.1 ≠ n + 3 := by
      simp only [List.mem_cons, List.not_mem_nil, or_false, forall_eq_or_imp, forall_eq]
      omega
    exact this
  clear hX0 hV0 hV1 hs0
  go_enter Try.func42, Try.ntmps42
  go_wp2
  go_loopw [6] (fun i w' => ∃ k : Nat, k ≤ 17 ∧ i = .int .i64 k ∧ Bx w [(n + 3, .cells (VI .i64 ((List.zipWith (· + ·) (bts a) (bts b)).take k ++ (List.replicate 17 (0 : Int)).drop k)) 3), (n + 2, .cells (VI .i64 (List.replicate 17 0)) 91), (n + 1, .cells (VI .i64 (bts b)) 91), (n, .cells (VI .i64 (bts a)) 91)] w') (fun i _ => 17 - (intOf i).toNat)
  case atStart => exact ⟨0, Nat.zero_le _, rfl, HX.out⟩
  case round =>
    clear HX hV0' hmk
    obtain ⟨k, hk, rfl, hp⟩ := hrel
    by_cases hlt : k < 17
    · have hca := hp.cellK (g := n) (l := bts a) (T := 91) (k := .i64) (by simp) (i := k) (by simpa using hlt)
      have hcb := hp.cellK (g := n + 1) (l := bts b) (T := 91) (k := .i64) (by simp) (i := k) (by simpa using hlt)
      have hcd := hp.cellK (g := n + 3) (List.mem_cons_self ..) (i := k) (by simp; omega)
      have hfz := hp.froz (g := n + 3) (List.mem_cons_self ..) k
      obtain ⟨y0, y1⟩ := byte_at (bts_bd a) k
      obtain ⟨z0, z1⟩ := byte_at (bts_bd b) k
      have hst := hp.setI HNE.out k ((List.zipWith (· + ·) (bts a) (bts b))[k]'(by rw [zip_len]; exact hlt))
      rw [set_step _ _ _ (by rw [zip_len]; exact hlt) (by simpa using hlt), List.getElem_zipWith, ← bts_at' a k hlt, ← bts_at' b k hlt] at hst
      have HST : Hid _ := hst
      clear hp hst
      generalize (bts a).getD k 0 = x at *
      generalize (bts b).getD k 0 = y at *
      generalize List.getD _ k 0 = z at hcd
      go_wp2
      go_region
      go_wp2
      go_roundw
      case rel => exact ⟨k + 1, by omega, by go_num, HST.out.drew⟩
      case measure => simp [intOf]; omega
    · have hk' : k = 17 := by omega
      subst hk'
      rw [List.take_of_length_le (by simp), List.drop_of_length_le (by simp), List.append_nil] at hp
      have HX2 : Hid (Bx w [(n + 3, .cells (VI .i64 (List.zipWith (· + ·) (bts a) (bts b))) 3), (n + 2, .cells (VI .i64 (List.replicate 17 0)) 91), (n + 1, .cells (VI .i64 (bts b)) 91), (n, .cells (VI .i64 (bts a)) 91)] wr) := hp
      have hL := rleast_any (.slice (some ⟨n + 3, 0, none⟩) 17 17) (List.zipWith (· + ·) (bts a) (bts b)) wr (rd_box (hp.row (g := n + 3) (x := .cells (VI .i64 (List.zipWith (· + ·) (bts a) (bts b))) 3) (by simp)) 17 (zip_len a b)) (by rw [zip_len]; omega) (fun x hx => by
        obtain ⟨i, hi, rfl⟩ := List.getElem_of_mem hx
        rw [List.getElem_zipWith]
        have h1 := bts_bd a _ (List.getElem_mem (l := bts a) (n := i) (by simpa using hi))
        have h2 := bts_bd b _ (List.getElem_mem (l := bts b) (n := i) (by simpa using hi))
        omega)
      rw [HZ.out, Int.toNat_natCast] at hL
      have HL : Hid (Calls Try.prog 56 #[.slice (some ⟨n + 3, 0, none⟩) 17 17] wr fun e w' => e = .returned (.agg (VI .i64 (bts ((a + b) % P)))) ∧ Below wr.heap.size wr w') := hL
      obtain ⟨r, hr⟩ : ∃ r, (a + b) % P = r := ⟨_, rfl⟩
      rw [hr] at HL
      have HR : Hid ((a + b) % P = r) := hr
      clear hp hL hlt hk hr
      rw [show ((17 : Nat) : Int) = 17 from rfl]
      go_wp2_with (first | (go_at_call 56; refine HL.out.mono ?_; rintro e w2 ⟨rfl, hb2⟩; have X2 : Hid _ := HX2.out.below hb2; clear hb2) | (with_reducible refine at_list ?_; refine wpList_store_row rfl 91 (.tmp 4) (.tmp 23) rfl (n + 2) (VI .i64 (bts r)) rfl rfl 91 (VI .i64 (List.replicate 17 0)) (X2.out.row (by simp)) (infoBts r) (by simp) (VI_one _ _) ?_))
      refine bodyPost_ret (v := .agg (VI .i64 (bts r))) ?_ rfl ⟨by rw [HR.out], by have := below_setRow X2.out.old (n + 2) (by omega) (VI .i64 (bts r)); exact this⟩
      exact results_cell_row (P := Try.prog) (fn := Try.f42) (p := 4) (ty := 91) rfl _ _ (n + 2) 91 (VI .i64 (bts r)) (0, 0) _ rfl (setRow_heap w2 _ _ _ 91 _ (X2.out.row (x := .cells (VI .i64 (List.replicate 17 0)) 91) (by simp))) Try.underlying91 rfl (infoBts r)
/-- what Mul's row is worth, behind i rows and k numbers -/
structure Mk (a b : Nat) (i k : Nat) (D : List Int) : Prop where
  len : D.length = 33
  bd : ∀ x ∈ D, 0 ≤ x ∧ x ≤ 65025 * ((17 * i + k : Nat) : Int)
  val : VB D = VB ((bts a).take i) * VB (bts b) + (256 : Int) ^ i * ((bts a).getD i 0 * VB ((bts b).take k))
theorem Mk.zero (a b : Nat) : Mk a b 0 0 (List.replicate 33 0) := ⟨by simp, fun x hx => by rw [(List.mem_replicate.1 hx).2]; omega, by
  have := VB_zeros [] 33
  rw [List.nil_append] at this
  rw [this]
  simp [VB]⟩
theorem Mk.at {a b i k : Nat} {D : List Int} (h : Mk a b i k D) (j : Nat) : 0 ≤ D.getD j 0 ∧ D.getD j 0 ≤ 65025 * ((17 * i + k : Nat) : Int) := by
  by_cases hj : j < D.length
  · rw [List.getD_eq_getElem?_getD, List.getElem?_eq_getElem hj]; exact h.bd _ (List.getElem_mem hj)
  · rw [List.getD_eq_getElem?_getD, List.getElem?_eq_none (by omega)]; simp; omega
theorem Mk.step {a b i k : Nat} {D : List Int} (h : Mk a b i k D) (hi : i < 17) (hk : k < 17) : Mk a b i (k + 1) (D.set (i + k) (D.getD (i + k) 0 + (bts a).getD i 0 * (bts b).getD k 0)) := by
  have ha := byte_at (bts_bd a) i
  have hb := byte_at (bts_bd b) k
  have hd := h.at (i + k)
  have hp : 0 ≤ (bts a).getD i 0 * (bts b).getD k 0 ∧ (bts a).getD i 0 * (bts b).getD k 0 ≤ 65025 := by
    refine ⟨Int.mul_nonneg ha.1 hb.1, ?_⟩
    have h1 : (bts a).getD i 0 * (bts b).getD k 0 ≤ 255 * (bts b).getD k 0 := Int.mul_le_mul_of_nonneg_right (by omega) hb.1
    omega
  refine ⟨by rw [List.length_set]; exact h.len, fun x hx => ?_, ?_⟩
  · rcases List.mem_or_eq_of_mem_set hx with hx | rfl
    · have := h.bd x hx; omega
    · omega
  · rw [VB_set _ _ _ (by rw [h.len]; omega), h.val, VB_take_succ _ _ (by simpa using hk), Int.pow_add]
    grind
theorem Mk.next {a b i : Nat} {D : List Int} (h : Mk a b i 17 D) (hi : i < 17) : Mk a b (i + 1) 0 D := by
  refine ⟨h.len, fun x hx => by have := h.bd x hx; omega, ?_⟩
  rw [h.val, VB_take_succ (bts a) i (by simpa using hi), List.take_of_length_le (l := bts b) (by simp)]
  simp only [List.take_zero, VB_nil, Int.mul_zero, Int.add_zero]
  rw [Int.add_mul, Int.mul_assoc]
set_option maxRecDepth 100000 in
set_option maxHeartbeats 4000000 in
theorem rmul_any (a b : Nat) (ha : a < P) (hb : b < P) (w : World) :
    Calls Try.prog 41 #[.agg (VI .i64 (bts a)), .agg (VI .i64 (bts b))] w fun e w' => e = .returned (.agg (VI .i64 (bts (a * b % P)))) ∧ Below w.heap.size w w' := by
  have HZ : Hid (∀ D, Mk a b 17 0 D → VB D = ((a * b : Nat) : Int)) := fun D h => by
    rw [h.val, List.take_of_length_le (by simp), bts_VB (Nat.lt_trans ha (by decide)), bts_VB (Nat.lt_trans hb (by decide))]
    simp [VB]
  have hX0 := ((bx3 w (.cells (VI .i64 (bts a)) 91) (.cells (VI .i64 (bts b)) 91) (.cells (VI .i64 (List.replicate 17 0)) 91)).new (.cells (VI .i64 (List.replicate 33 0)) 3))
  rw [size_alloc, size_alloc, size_alloc] at hX0
  obtain ⟨n, hn⟩ : ∃ n, w.heap.size = n := ⟨_, rfl⟩
  obtain ⟨V0, hV0⟩ : ∃ V, ((w.alloc (.cells (VI .i64 (bts a)) 91)).alloc (.cells (VI .i64 (bts b)) 91)).alloc (.cells (VI .i64 (List.replicate 17 0)) 91) = V := ⟨_, rfl⟩
  have hV0' : ((w.alloc (.cells (VI .i64 (bts a)) 91)).alloc (.cells (VI .i64 (bts b)) 91)).alloc (.cells #[.int .i64 0, .int .i64 0, .int .i64 0, .int .i64 0, .int .i64 0, .int .i64 0, .int .i64 0, .int .i64 0, .int .i64 0, .int .i64 0, .int .i64 0, .int .i64 0, .int .i64 0, .int .i64 0, .int .i64 0, .int .i64 0, .int .i64 0] 91) = V0 := hV0
  have hs0 : V0.heap.size = n + 3 := by rw [← hV0]; simp [hn]
  have hmk := mk33 V0
  rw [hV0] at hX0
  obtain ⟨V1, hV1⟩ : ∃ V, V0.alloc (.cells (VI .i64 (List.replicate 33 0)) 3) = V := ⟨_, rfl⟩
  rw [hV1, hs0] at hmk
  rw [hV1, hn] at hX0
  have HX : Hid (Bx w [(n + 3, .cells (VI .i64 (List.replicate 33 0)) 3), (n + 2, .cells (VI .i64 (List.replicate 17 0)) 91), (n + 1, .cells (VI .i64 (bts b)) 91), (n, .cells (VI .i64 (bts a)) 91)] V1) := hX0
  have HNE : Hid (∀ p ∈ ([(n + 2, .cells (VI .i64 (List.replicate 17 0)) 91), (n + 1, .cells (VI .i64 (bts b)) 91), (n, .cells (VI .i64 (bts a)) 91)] : List (Nat × Obj)), p.1 ≠ n + 3) := by
    have : ∀ p ∈ ([(n + 2, .cells (VI .i64 (List.replicate 17 0)) 91), (n + 1, .cells (VI .i64 (bts b)) 91), (n, .cells (VI .i64 (bts a)) 91)] : List (Nat × Obj)), p.1 ≠ n + 3 := by
      simp only [List.mem_cons, List.not_mem_nil, or_false, forall_eq_or_imp, forall_eq]
      omega
    exact this
  clear hX0 hV0 hV1 hs0
  go_enter Try.func41, Try.ntmps41
  go_wp2
  go_loopw [6] (fun i w' => ∃ (k : Nat) (D : List Int), k ≤ 17 ∧ i = .int .i64 k ∧ Mk a b k 0 D ∧ Bx w [(n + 3, .cells (VI .i64 D) 3), (n + 2, .cells (VI .i64 (List.replicate 17 0)) 91), (n + 1, .cells (VI .i64 (bts b)) 91), (n, .cells (VI .i64 (bts a)) 91)] w') (fun i _ => 17 - (intOf i).toNat)
  case atStart => exact ⟨0, _, Nat.zero_le _, rfl, Mk.zero a b, HX.out⟩
  case round =>
    clear HX hV0' hmk
    obtain ⟨i, D, hi, rfl, hM, hp⟩ := hrel
    by_cases hlt : i < 17
    · have HM : Hid (Mk a b i 0 D) := hM
      have HP : Hid (Bx w [(n + 3, .cells (VI .i64 D) 3), (n + 2, .cells (VI .i64 (List.replicate 17 0)) 91), (n + 1, .cells (VI .i64 (bts b)) 91), (n, .cells (VI .i64 (bts a)) 91)] wr) := hp
      clear hM hp
      go_wp2
      go_loopw [7] (fun j w' => ∃ (k : Nat) (D : List Int), k ≤ 17 ∧ j = .int .i64 k ∧ Mk a b i k D ∧ Bx w [(n + 3, .cells (VI .i64 D) 3), (n + 2, .cells (VI .i64 (List.replicate 17 0)) 91), (n + 1, .cells (VI .i64 (bts b)) 91), (n, .cells (VI .i64 (bts a)) 91)] w') (fun i _ => 17 - (intOf i).toNat)
      case atStart => exact ⟨0, D, Nat.zero_le _, rfl, HM.out, HP.out⟩
      case round =>
        clear HM HP
        obtain ⟨k, D2, hk, rfl, hM, hp⟩ := hrel
        by_cases hlt2 : k < 17
        · have hca := hp.cellK (g := n) (l := bts a) (T := 91) (k := .i64) (by simp) (i := i) (by simpa using hlt)
          have hcb := hp.cellK (g := n + 1) (l := bts b) (T := 91) (k := .i64) (by simp) (i := k) (by simpa using hlt2)
          have hcd := hp.cellK (g := n + 3) (l := D2) (T := 3) (k := .i64) (by simp) (i := i + k) (by rw [hM.len]; omega)
          have hfz := hp.froz (g := n + 3) (List.mem_cons_self ..) (i + k)
          obtain ⟨y0, y1⟩ := byte_at (bts_bd a) i
          obtain ⟨z0, z1⟩ := byte_at (bts_bd b) k
          obtain ⟨d0, d1⟩ := hM.at (i + k)
          have hp0 : 0 ≤ (bts a).getD i 0 * (bts b).getD k 0 ∧ (bts a).getD i 0 * (bts b).getD k 0 ≤ 65025 := by
            refine ⟨Int.mul_nonneg y0 z0, ?_⟩
            have h1 : (bts a).getD i 0 * (bts b).getD k 0 ≤ 255 * (bts b).getD k 0 := Int.mul_le_mul_of_nonneg_right (by omega) z0
            omega
          have hst := hp.setI HNE.out (i + k) (D2.getD (i + k) 0 + (bts a).getD i 0 * (bts b).getD k 0)
          have HST : Hid (Bx w [(n + 3, .cells (VI .i64 (D2.set (i + k) (D2.getD (i + k) 0 + (bts a).getD i 0 * (bts b).getD k 0))) 3), (n + 2, .cells (VI .i64 (List.replicate 17 0)) 91), (n + 1, .cells (VI .i64 (bts b)) 91), (n, .cells (VI .i64 (bts a)) 91)] (wr.setCell ⟨n + 3, i + k, none⟩ (.int .i64 (D2.getD (i + k) 0 + (bts a).getD i 0 * (bts b).getD k 0)))) := hst
          have HMS : Hid (Mk a b i (k + 1) (D2.set (i + k) (D2.getD (i + k) 0 + (bts a).getD i 0 * (bts b).getD k 0))) := hM.step hlt hlt2
          obtain ⟨j, hj⟩ : ∃ j : Nat, j = i + k := ⟨_, rfl⟩
          have hj' : (i : Int) + (k : Int) = (j : Int) := by omega
          have hj33 : j < 33 := by omega
          have hj33' : (j : Int) < 33 := by omega
          rw [← hj] at hcd hfz HST HMS d0 d1
          clear hp hst hM hj
          generalize (bts a).getD i 0 = x at *
          generalize (bts b).getD k 0 = y at *
          generalize D2.getD j 0 = z at *
          obtain ⟨p0, p1⟩ := hp0
          have hw1 : IntKind.i64.wrap (x * y) = x * y := by rw [IntKind.wrap_i64]; omega
          have hw2 : IntKind.i64.wrap (z + x * y) = z + x * y := by rw [IntKind.wrap_i64]; omega
          clear y0 y1 z0 z1 d0 d1 p0 p1
          go_wp2
          go_region
          go_wp2
          go_roundw
          case rel => exact ⟨k + 1, _, by omega, by go_num, HMS.out, HST.out.drew⟩
          case measure => simp [intOf]; omega
        · have hk' : k = 17 := by omega
          subst hk'
          have HM : Hid (Mk a b (i + 1) 0 D2) := hM.next hlt
          have HP : Hid (Bx w [(n + 3, .cells (VI .i64 D2) 3), (n + 2, .cells (VI .i64 (List.replicate 17 0)) 91), (n + 1, .cells (VI .i64 (bts b)) 91), (n, .cells (VI .i64 (bts a)) 91)] wr) := hp
          clear hM hp
          rw [show ((17 : Nat) : Int) = 17 from rfl]
          go_wp2
          go_roundw
          case rel => exact ⟨i + 1, D2, by omega, by go_num, HM.out, HP.out⟩
          case measure => simp [intOf]; omega
    · have hi' : i = 17 := by omega
      subst hi'
      have HX2 : Hid (Bx w [(n + 3, .cells (VI .i64 D) 3), (n + 2, .cells (VI .i64 (List.replicate 17 0)) 91), (n + 1, .cells (VI .i64 (bts b)) 91), (n, .cells (VI .i64 (bts a)) 91)] wr) := hp
      have hL := rleast_any (.slice (some ⟨n + 3, 0, none⟩) 33 33) D wr (rd_box (hp.row (g := n + 3) (x := .cells (VI .i64 D) 3) (by simp)) 33 hM.len) (by rw [hM.len]; omega) (fun x hx => by have := hM.bd x hx; omega)
      rw [HZ.out D hM, Int.toNat_natCast] at hL
      have HL : Hid (Calls Try.prog 56 #[.slice (some ⟨n + 3, 0, none⟩) 33 33] wr fun e w' => e = .returned (.agg (VI .i64 (bts (a * b % P)))) ∧ Below wr.heap.size wr w') := hL
      obtain ⟨r, hr⟩ : ∃ r, a * b % P = r := ⟨_, rfl⟩
      rw [hr] at HL
      have HR : Hid (a * b % P = r) := hr
      clear hp hL hlt hi hr hM
      rw [show ((17 : Nat) : Int) = 17 from rfl]
      go_wp2_with (first | (go_at_call 56; refine HL.out.mono ?_; rintro e w2 ⟨rfl, hb2⟩; have X2 : Hid _ := HX2.out.below hb2; clear hb2) | (with_reducible refine at_list ?_; refine wpList_store_row rfl 91 (.tmp 4) (.tmp 37) rfl (n + 2) (VI .i64 (bts r)) rfl rfl 91 (VI .i64 (List.replicate 17 0)) (X2.out.row (by simp)) (infoBts r) (by simp) (VI_one _ _) ?_))
      refine bodyPost_ret (v := .agg (VI .i64 (bts r))) ?_ rfl ⟨by rw [HR.out], by have := below_setRow X2.out.old (n + 2) (by omega) (VI .i64 (bts r)); exact this⟩
      exact results_cell_row (P := Try.prog) (fn := Try.f41) (p := 4) (ty := 91) rfl _ _ (n + 2) 91 (VI .i64 (bts r)) (0, 0) _ rfl (setRow_heap w2 _ _ _ 91 _ (X2.out.row (x := .cells (VI .i64 (List.replicate 17 0)) 91) (by simp))) Try.underlying91 rfl (infoBts r)
end Go.Proofs.Ytgfamcadgahiiaa
namespace Go.Proofs.Ytgfamcadgahiiaa
set_option linter.unusedSimpArgs false
open Go.ChangeShapes Go.WideShapes Go.ChangeAt Go.RowKit Go.Pin Go.Prm
theorem sixteen {l : List Int} (h : l.length = 16) : ∃ k0 k1 k2 k3 k4 k5 k6 k7 k8 k9 k10 k11 k12 k13 k14 k15, l = [k0, k1, k2, k3, k4, k5, k6, k7, k8, k9, k10, k11, k12, k13, k14, k15] := by
  match l, h with
  | [k0, k1, k2, k3, k4, k5, k6, k7, k8, k9, k10, k11, k12, k13, k14, k15], _ => exact ⟨k0, k1, k2, k3, k4, k5, k6, k7, k8, k9, k10, k11, k12, k13, k14, k15, rfl⟩
theorem clp_eq (k0 k1 k2 k3 k4 k5 k6 k7 k8 k9 k10 k11 k12 k13 k14 k15 : Int) : clp [k0, k1, k2, k3, k4, k5, k6, k7, k8, k9, k10, k11, k12, k13, k14, k15] ++ [0] = [k0, k1, k2, k3 % 16, k4 - k4 % 4, k5, k6, k7 % 16, k8 - k8 % 4, k9, k10, k11 % 16, k12 - k12 % 4, k13, k14, k15 % 16, 0] := rfl
theorem clp_elem {key : List Int} (hl : key.length = 16) (k : Nat) (hk : k < 16) : (clp key ++ [0]).getD k 0 = if k % 4 = 3 then key.getD k 0 % 16 else if k % 4 = 0 ∧ 0 < k then key.getD k 0 - key.getD k 0 % 4 else key.getD k 0 := by
  obtain ⟨k0, k1, k2, k3, k4, k5, k6, k7, k8, k9, k10, k11, k12, k13, k14, k15, rfl⟩ := sixteen hl
  rw [clp_eq]
  have h : k = 0 ∨ k = 1 ∨ k = 2 ∨ k = 3 ∨ k = 4 ∨ k = 5 ∨ k = 6 ∨ k = 7 ∨ k = 8 ∨ k = 9 ∨ k = 10 ∨ k = 11 ∨ k = 12 ∨ k = 13 ∨ k = 14 ∨ k = 15 := by omega
  rcases h with rfl | rfl | rfl | rfl | rfl | rfl | rfl | rfl | rfl | rfl | rfl | rfl | rfl | rfl | rfl | rfl <;> rfl
theorem tm8 (i : Int) : i.tmod 8 = i % 8 ∨ (i.tmod 8 = i % 8 - 8 ∧ i % 8 ≠ 0) := by
  rcases Int.le_total 0 i with h | h
  · left; exact Int.tmod_eq_emod_of_nonneg h
  · obtain ⟨m, rfl⟩ : ∃ m, i = -m := ⟨-i, by omega⟩
    rw [Int.neg_tmod, Int.tmod_eq_emod_of_nonneg (by omega)]
    omega
set_option maxRecDepth 100000 in
set_option maxHeartbeats 4000000 in
theorem rsum_any (a : Nat) (s : List Int) (hs : Key16 s) (w : World) :
    Calls Try.prog 44 #[.agg (VI .i64 (bts a)), .agg (VI .u8 s)] w fun e w' => e = .returned (.agg (VI .u8 (smt (bts a) s))) ∧ Below w.heap.size w w' := by
  have hX := (bx3 w (.cells (VI .i64 (bts a)) 91) (.cells (VI .u8 s) 35) (.cells (VI .u8 (List.replicate 16 0)) 36)).new (.cells (VI .u8 (List.replicate 16 0)) 36)
  rw [size_alloc, size_alloc, size_alloc] at hX
  obtain ⟨n, hn⟩ : ∃ n, w.heap.size = n := ⟨_, rfl⟩
  obtain ⟨V1, hV1⟩ : ∃ V, (((w.alloc (.cells (VI .i64 (bts a)) 91)).alloc (.cells (VI .u8 s) 35)).alloc (.cells (VI .u8 (List.replicate 16 0)) 36)).alloc (.cells (VI .u8 (List.replicate 16 0)) 36) = V := ⟨_, rfl⟩
  have hV1' : (((w.alloc (.cells (VI .i64 (bts a)) 91)).alloc (.cells (VI .u8 s) 35)).alloc (.cells #[.int .u8 0, .int .u8 0, .int .u8 0, .int .u8 0, .int .u8 0, .int .u8 0, .int .u8 0, .int .u8 0, .int .u8 0, .int .u8 0, .int .u8 0, .int .u8 0, .int .u8 0, .int .u8 0, .int .u8 0, .int .u8 0] 36)).alloc (.cells #[.int .u8 0, .int .u8 0, .int .u8 0, .int .u8 0, .int .u8 0, .int .u8 0, .int .u8 0, .int .u8 0, .int .u8 0, .int .u8 0, .int .u8 0, .int .u8 0, .int .u8 0, .int .u8 0, .int .u8 0, .int .u8 0] 36) = V1 := hV1
  rw [hV1, hn] at hX
  have HX : Hid (Bx w ((n + 3, .cells (VI .u8 (List.replicate 16 0)) 36) :: [(n + 2, .cells (VI .u8 (List.replicate 16 0)) 36), (n + 1, .cells (VI .u8 s) 35), (n, .cells (VI .i64 (bts a)) 91)]) V1) := hX
  have HS : Hid (Key16 s) := hs
  have HNE : Hid (∀ p ∈ ([(n + 2, .cells (VI .u8 (List.replicate 16 0)) 36), (n + 1, .cells (VI .u8 s) 35), (n, .cells (VI .i64 (bts a)) 91)] : List (Nat × Obj)), p.1 ≠ n + 3) := by
    have : ∀ p ∈ ([(n + 2, .cells (VI .u8 (List.replicate 16 0)) 36), (n + 1, .cells (VI .u8 s) 35), (n, .cells (VI .i64 (bts a)) 91)] : List (Nat × Obj)), p.1 ≠ n + 3 := by
      simp only [List.mem_cons, List.not_mem_nil, or_false, forall_eq_or_imp, forall_eq]
      omega
    exact this
  clear hX hV1 hs
  go_enter Try.func44, Try.ntmps44
  go_wp2
  go_loopw [6, 7] (fun o i w' => ∃ k : Nat, k ≤ 16 ∧ i = .int .i64 k ∧ o = .int .i64 (cr (bts a) s k) ∧ Bx w ((n + 3, .cells (VI .u8 ((smt (bts a) s).take k ++ (List.replicate 16 (0 : Int)).drop k)) 36) :: [(n + 2, .cells (VI .u8 (List.replicate 16 0)) 36), (n + 1, .cells (VI .u8 s) 35), (n, .cells (VI .i64 (bts a)) 91)]) w') (fun _ i _ => 16 - (intOf i).toNat)
  case atStart => exact ⟨0, Nat.zero_le _, rfl, rfl, HX.out⟩
  case round =>
    clear HX hV1'
    obtain ⟨k, hk, rfl, rfl, hp⟩ := hrel
    by_cases hlt : k < 16
    · have hca := hp.cellK (g := n) (l := bts a) (T := 91) (k := .i64) (by simp) (i := k) (by simp; omega)
      have hcs := hp.cellK (g := n + 1) (l := s) (T := 35) (k := .u8) (by simp) (i := k) (by rw [HS.out.len]; exact hlt)
      have hcd := hp.cellK (g := n + 3) (List.mem_cons_self ..) (i := k) (by simp; omega)
      have hfz := hp.froz (g := n + 3) (List.mem_cons_self ..) k
      obtain ⟨b0, b1⟩ := byte_at (bts_bd a) k
      obtain ⟨s0, s1⟩ := byte_at HS.out.bd k
      obtain ⟨d0, d1⟩ := cr_bd (bts_bd a) HS.out.bd k
      have hst := hp.setI HNE.out k ((smt (bts a) s)[k]'(by simpa using hlt))
      rw [set_step _ _ _ (by simpa using hlt) (by simpa using hlt), smt_at _ _ _ hlt, show cr (bts a) s k + ((bts a).getD k 0 + s.getD k 0) = cr (bts a) s k + (bts a).getD k 0 + s.getD k 0 by omega] at hst
      have HST : Hid _ := hst
      have HCR : Hid (cr (bts a) s (k + 1) = (cr (bts a) s k + (bts a).getD k 0 + s.getD k 0) / 256) := by
        have : cr (bts a) s (k + 1) = (cr (bts a) s k + ((bts a).getD k 0 + s.getD k 0)) / 256 := rfl
        rw [this, Int.add_assoc]
        exact rfl
      clear hp hst
      generalize cr (bts a) s k = c at *
      generalize (bts a).getD k 0 = x at *
      generalize s.getD k 0 = y at *
      generalize List.getD _ k 0 = z at hcd
      go_wp2
      go_region
      go_wp2
      go_roundw
      case rel => exact ⟨k + 1, by omega, by go_num, by rw [HCR.out], HST.out.drew⟩
      case measure => simp [intOf]; omega
    · have hk' : k = 16 := by omega
      subst hk'
      rw [List.take_of_length_le (by simp), List.drop_of_length_le (by simp), List.append_nil] at hp
      have HX : Hid (Bx w ((n + 3, .cells (VI .u8 (smt (bts a) s)) 36) :: [(n + 2, .cells (VI .u8 (List.replicate 16 0)) 36), (n + 1, .cells (VI .u8 s) 35), (n, .cells (VI .i64 (bts a)) 91)]) wr) := hp
      have HJ : Hid ((Try.prog.info? 36).map (·.size) = some (VI .u8 (smt (bts a) s)).size) := by rw [VI_size, smt_len]; exact infoT16
      clear hp hlt hk
      rw [show ((16 : Nat) : Int) = 16 from rfl]
      go_wp2_with (with_reducible refine at_list ?_; first | (refine wpList_load_row rfl 36 (.tmp 5) rfl (n + 3) rfl 36 (VI .u8 (smt (bts a) s)) (0, 0) _ (HX.out.row (by simp)) Try.underlying36 rfl HJ.out ?_) | (refine wpList_store_row rfl 36 (.tmp 4) (.tmp 29) rfl (n + 2) (VI .u8 (smt (bts a) s)) rfl rfl 36 (VI .u8 (List.replicate 16 0)) (HX.out.row (by simp)) HJ.out (by simp) (VI_one _ _) ?_))
      refine bodyPost_ret (v := .agg (VI .u8 (smt (bts a) s))) ?_ rfl ⟨rfl, by have := below_setRow HX.out.old (n + 2) (by omega) (VI .u8 (smt (bts a) s)); exact this⟩
      exact results_cell_row (P := Try.prog) (fn := Try.f44) (p := 4) (ty := 36) rfl _ _ (n + 2) 36 (VI .u8 (smt (bts a) s)) (0, 0) _ rfl (setRow_heap wr _ _ _ 36 _ (HX.out.row (x := .cells (VI .u8 (List.replicate 16 0)) 36) (by simp))) Try.underlying36 rfl HJ.out
set_option maxRecDepth 100000 in
set_option maxHeartbeats 4000000 in
theorem rclamp_any (key : List Int) (hk : Key16 key) (w : World) :
    Calls Try.prog 40 #[.agg (VI .u8 key)] w fun e w' => e = .returned (.agg (VI .i64 (bts (nb (clp key ++ [0]) % P)))) ∧ Below w.heap.size w w' := by
  have hkey := pad17 (clp_key hk.len hk.bd).1 (clp_key hk.len hk.bd).2
  have hfin : bts (nb (clp key ++ [0]) % P) = (clp key ++ [0]) := by
    rw [Nat.mod_eq_of_lt (Nat.lt_trans (nb_small (clp_key hk.len hk.bd).2 (clp_key hk.len hk.bd).1) (by decide))]
    exact bts_nb _ hkey.len hkey.bd
  rw [hfin]
  have hX := bx3 w (.cells (VI .u8 key) 35) (.cells (VI .i64 (List.replicate 17 0)) 91) (.cells (VI .i64 (List.replicate 17 0)) 91)
  obtain ⟨n, hn⟩ : ∃ n, w.heap.size = n := ⟨_, rfl⟩
  obtain ⟨V1, hV1⟩ : ∃ V, ((w.alloc (.cells (VI .u8 key) 35)).alloc (.cells (VI .i64 (List.replicate 17 0)) 91)).alloc (.cells (VI .i64 (List.replicate 17 0)) 91) = V := ⟨_, rfl⟩
  have hV1' : ((w.alloc (.cells (VI .u8 key) 35)).alloc (.cells #[.int .i64 0, .int .i64 0, .int .i64 0, .int .i64 0, .int .i64 0, .int .i64 0, .int .i64 0, .int .i64 0, .int .i64 0, .int .i64 0, .int .i64 0, .int .i64 0, .int .i64 0, .int .i64 0, .int .i64 0, .int .i64 0, .int .i64 0] 91)).alloc (.cells #[.int .i64 0, .int .i64 0, .int .i64 0, .int .i64 0, .int .i64 0, .int .i64 0, .int .i64 0, .int .i64 0, .int .i64 0, .int .i64 0, .int .i64 0, .int .i64 0, .int .i64 0, .int .i64 0, .int .i64 0, .int .i64 0, .int .i64 0] 91) = V1 := hV1
  rw [hV1, hn] at hX
  have HX : Hid (Bx w ((n + 2, .cells (VI .i64 (List.replicate 17 0)) 91) :: [(n + 1, .cells (VI .i64 (List.replicate 17 0)) 91), (n, .cells (VI .u8 key) 35)]) V1) := hX
  have HK : Hid (Key16 key) := hk
  have HC : Hid (Key17 (clp key ++ [0])) := hkey
  have HEL : Hid (∀ k, k < 16 → (clp key ++ [0]).getD k 0 = if k % 4 = 3 then key.getD k 0 % 16 else if k % 4 = 0 ∧ 0 < k then key.getD k 0 - key.getD k 0 % 4 else key.getD k 0) := clp_elem hk.len
  have HNE : Hid (∀ p ∈ ([(n + 1, .cells (VI .i64 (List.replicate 17 0)) 91), (n, .cells (VI .u8 key) 35)] : List (Nat × Obj)), p.1 ≠ n + 2) := by
    have : ∀ p ∈ ([(n + 1, .cells (VI .i64 (List.replicate 17 0)) 91), (n, .cells (VI .u8 key) 35)] : List (Nat × Obj)), p.1 ≠ n + 2 := by
      simp only [List.mem_cons, List.not_mem_nil, or_false, forall_eq_or_imp, forall_eq]
      omega
    exact this
  have hc16 : (clp key ++ [0]).getD 16 0 = 0 := by
    rw [List.getD_eq_getElem?_getD, List.getElem?_append_right (by rw [(clp_key hk.len hk.bd).1]; omega), (clp_key hk.len hk.bd).1]; rfl
  have HC16 : Hid ((clp key ++ [0]).getD 16 0 = 0) := hc16
  clear hX hV1 hk hkey hfin hc16
  generalize (clp key ++ [0]) = c at *
  go_enter Try.func40, Try.ntmps40
  go_wp2
  go_loopw [4] (fun i w' => ∃ k : Nat, k ≤ 16 ∧ i = .int .i64 k ∧ Bx w ((n + 2, .cells (VI .i64 (c.take k ++ (List.replicate 17 (0 : Int)).drop k)) 91) :: [(n + 1, .cells (VI .i64 (List.replicate 17 0)) 91), (n, .cells (VI .u8 key) 35)]) w') (fun i _ => 16 - (intOf i).toNat)
  case atStart => exact ⟨0, Nat.zero_le _, rfl, HX.out⟩
  case round =>
    clear HX hV1'
    obtain ⟨k, hk, rfl, hp⟩ := hrel
    by_cases hlt : k < 16
    · have hca := hp.cellK (g := n) (l := key) (T := 35) (k := .u8) (by simp) (i := k) (by rw [HK.out.len]; exact hlt)
      have hll : k < (c.take k ++ (List.replicate 17 (0 : Int)).drop k).length := by have := HC.out.len; simp; omega
      have hcd := hp.cellK (g := n + 2) (List.mem_cons_self ..) (i := k) hll
      have hfz := hp.froz (g := n + 2) (List.mem_cons_self ..) k
      have hel := HEL.out k hlt
      have hkc : k < c.length := by rw [HC.out.len]; omega
      have hcg : c[k] = c.getD k 0 := by rw [List.getD_eq_getElem?_getD, List.getElem?_eq_getElem hkc]; rfl
      obtain ⟨y0, y1⟩ := byte_at HK.out.bd k
      have HSS : Hid (∀ v, v = c.getD k 0 → Bx w ((n + 2, .cells (VI .i64 (c.take (k + 1) ++ (List.replicate 17 (0 : Int)).drop (k + 1))) 91) :: [(n + 1, .cells (VI .i64 (List.replicate 17 0)) 91), (n, .cells (VI .u8 key) 35)]) (wr.setCell ⟨n + 2, k, none⟩ (.int .i64 v))) := fun v hv => by
        have hst := hp.setI HNE.out k v
        rw [hv, ← hcg, set_step _ _ _ hkc (by simp; omega)] at hst
        rw [hv, ← hcg]
        exact hst
      have HS2 : Hid (∀ u v, v = c.getD k 0 → Bx w ((n + 2, .cells (VI .i64 (c.take (k + 1) ++ (List.replicate 17 (0 : Int)).drop (k + 1))) 91) :: [(n + 1, .cells (VI .i64 (List.replicate 17 0)) 91), (n, .cells (VI .u8 key) 35)]) ((wr.setCell ⟨n + 2, k, none⟩ (.int .i64 u)).setCell ⟨n + 2, k, none⟩ (.int .i64 v))) := fun u v hv => by
        have hst := (hp.setI HNE.out k u).setI HNE.out k v
        rw [List.set_set, hv, ← hcg, set_step _ _ _ hkc (by simp; omega)] at hst
        rw [hv, ← hcg]
        exact hst
      have HCK : Hid (c.getD k 0 = if k % 4 = 3 then key.getD k 0 % 16 else if k % 4 = 0 ∧ 0 < k then key.getD k 0 - key.getD k 0 % 4 else key.getD k 0) := hel
      clear hp hel hcg hll hkc
      generalize key.getD k 0 = x at *
      generalize List.getD _ k 0 = z at hcd
      by_cases h3 : k % 4 = 3
      · have h3' : (k : Int) % 4 = 3 := by omega
        have h0' : 0 < (k : Int) := by omega
        have HV : Hid (x % 16 = c.getD k 0) := by have := HCK.out; rw [if_pos h3] at this; exact this.symm
        clear HCK h3
        go_wp2
        go_roundw
        case rel => exact ⟨k + 1, by omega, by go_num, HS2.out _ _ HV.out⟩
        case measure => simp [intOf]; omega
      · by_cases h0 : k % 4 = 0 ∧ 0 < k
        · have h0' : 0 < (k : Int) := by omega
          have h4' : (k : Int) % 4 = 0 := by omega
          have HV : Hid (x - x % 4 = c.getD k 0) := by have := HCK.out; rw [if_neg h3, if_pos h0] at this; exact this.symm
          clear HCK h3 h0
          go_wp2
          go_region
          go_wp2
          go_roundw
          case rel => exact ⟨k + 1, by omega, by go_num, (HS2.out _ _ HV.out).drew⟩
          case measure => simp [intOf]; omega
        · have HV : Hid (x = c.getD k 0) := by have := HCK.out; rw [if_neg h3, if_neg h0] at this; exact this.symm
          have h3' : ¬ (k : Int) % 4 = 3 := by omega
          clear HCK h3
          by_cases hk0 : k = 0
          · subst hk0
            rw [show ((0 : Nat) : Int) = 0 from rfl] at *
            clear h0 h3'
            go_wp2
            go_roundw
            case rel => exact ⟨1, by omega, by go_num, HSS.out _ HV.out⟩
            case measure => simp [intOf]
          · have h0' : 0 < (k : Int) := by omega
            have h4' : ¬ (k : Int) % 4 = 0 := by omega
            clear h0 hk0
            go_wp2
            go_roundw
            case rel => exact ⟨k + 1, by omega, by go_num, HSS.out _ HV.out⟩
            case measure => simp [intOf]; omega
    · have hk' : k = 16 := by omega
      subst hk'
      have e : c.take 16 ++ (List.replicate 17 (0 : Int)).drop 16 = c := by
        have h1 : c = c.take 16 ++ c.drop 16 := (List.take_append_drop 16 c).symm
        have h2 : c.drop 16 = [0] := by
          rw [List.drop_eq_getElem_cons (by rw [HC.out.len]; omega), List.drop_eq_nil_of_le (by rw [HC.out.len]; omega)]
          have := HC16.out
          rw [List.getD_eq_getElem?_getD, List.getElem?_eq_getElem (by rw [HC.out.len]; omega)] at this
          rw [show c[16]'(by rw [HC.out.len]; omega) = 0 from this]
        rw [h2] at h1
        exact h1.symm
      rw [e] at hp
      have HX : Hid (Bx w ((n + 2, .cells (VI .i64 c) 91) :: [(n + 1, .cells (VI .i64 (List.replicate 17 0)) 91), (n, .cells (VI .u8 key) 35)]) wr) := hp
      have HJ : Hid ((Try.prog.info? 91).map (·.size) = some (VI .i64 c).size) := by rw [VI_size, HC.out.len]; exact infoNum
      clear hp hlt hk e
      rw [show ((16 : Nat) : Int) = 16 from rfl]
      go_wp2_with (with_reducible refine at_list ?_; first | (refine wpList_load_row rfl 91 (.tmp 3) rfl (n + 2) rfl 91 (VI .i64 c) (0, 0) _ (HX.out.row (by simp)) Try.underlying91 rfl HJ.out ?_) | (refine wpList_store_row rfl 91 (.tmp 2) (.tmp 41) rfl (n + 1) (VI .i64 c) rfl rfl 91 (VI .i64 (List.replicate 17 0)) (HX.out.row (by simp)) HJ.out (by rw [VI_size, VI_size, HC.out.len, List.length_replicate]) (VI_one _ _) ?_))
      refine bodyPost_ret (v := .agg (VI .i64 c)) ?_ rfl ⟨rfl, by have := below_setRow HX.out.old (n + 1) (by omega) (VI .i64 c); exact this⟩
      exact results_cell_row (P := Try.prog) (fn := Try.f40) (p := 2) (ty := 91) rfl _ _ (n + 1) 91 (VI .i64 c) (0, 0) _ rfl (setRow_heap wr _ _ _ 91 _ (HX.out.row (x := .cells (VI .i64 (List.replicate 17 0)) 91) (by simp))) Try.underlying91 rfl HJ.out
end Go.Proofs.Ytgfamcadgahiiaa
namespace Go.Proofs.Ytgfamcadgahiiaa
set_option linter.unusedSimpArgs false
set_option linter.unusedVariables false
open Go.ChangeShapes Go.WideShapes Go.ChangeAt Go.RowKit Go.Pin Go.Prm
theorem put_none (a : Act) (v : Value) : a.put none v = a := rfl
theorem run_ldNm {a : Act} {o : Oper} {x : Operand} {g f : Nat} {cs : List Int} (hl : cs.length = 17) (ho : o.op = .load 91 x) (he : a.eval x = .pointer (some ⟨g, f, none⟩)) (w : World) (hg : w.rangeAt g f (cs.map (Value.int .i64))) : (execOp a.eval o).run Try.prog w = .ok (.value (.agg (VI .i64 cs))) w := by
  unfold execOp
  simp only [ho, he, Instr.loadAt, Instr.sureAddr, Sem.run_bind, Sem.run_pure, Result.andThen_ok, run_loadVar_mid w g f 91 (cs.map (Value.int .i64)) _ hg Try.underlying91 rfl (by rw [List.length_map, hl]; exact infoNum)]
  rfl
noncomputable def rgRt19 : Code := ((Try.f14.body.bind (findReg 19)).getD .skip)
noncomputable def opRt19 : Array Oper := opsOf rgRt19
theorem rgRt19_is : rgRt19 = .region 19 opRt19 true := by kernel_rfl
theorem opRt19_ns : Region.noSelect opRt19 = true := by kernel_rfl
theorem opRt19_0 : opIs opRt19 0 (.load 91 (.tmp 9)) (some 59) := by unfold opIs; kernel_rfl
theorem opRt19_1 : opIs opRt19 1 (.load 67 (.tmp 11)) (some 60) := by unfold opIs; kernel_rfl
theorem opRt19_2 : opIs opRt19 2 (.call { callee := .value (.func 43), args := #[.tmp 60], argTypes := #[67] }) (some 61) := by unfold opIs; kernel_rfl
theorem opRt19_3 : opIs opRt19 3 (.call { callee := .value (.func 42), args := #[.tmp 59, .tmp 61], argTypes := #[91, 91] }) (some 62) := by unfold opIs; kernel_rfl
theorem opRt19_4 : opIs opRt19 4 (.load 91 (.tmp 8)) (some 63) := by unfold opIs; kernel_rfl
theorem opRt19_5 : opIs opRt19 5 (.call { callee := .value (.func 41), args := #[.tmp 62, .tmp 63], argTypes := #[91, 91] }) (some 64) := by unfold opIs; kernel_rfl
theorem opRt19_6 : opIs opRt19 6 (.store 91 (.tmp 9) (.tmp 64)) (none) := by unfold opIs; kernel_rfl
set_option maxRecDepth 100000 in
set_option maxHeartbeats 4000000 in
theorem Rt19 {Q : Exit → Act → World → Prop} {W : World} {R0 R1 : World → Prop} {p8 p9 pb : Nat} {tm sm z0 z1 z2 bb : List Int} {a0 : Act} (sz : a0.tmps.size = 68) (e8 : a0.eval (.tmp 8) = .pointer (some ⟨p8, 0, none⟩)) (e9 : a0.eval (.tmp 9) = .pointer (some ⟨p9, 0, none⟩)) (e11 : a0.eval (.tmp 11) = .pointer (some ⟨pb, 0, none⟩))
    (ht : tm.length = 17) (hs : sm.length = 17) (hb : bb.length = 17) (hz : z2.length = 17) (hR0 : R0 W.drew)
    (HS0 : ∀ Y, R0 Y → (fun Y : World => Y.rangeAt p8 0 (tm.map (Value.int .i64)) ∧ Y.rangeAt pb 0 (bb.map (Value.int .u8))) Y) (HS1 : ∀ Y, R1 Y → (fun Y : World => Y.rangeAt p8 0 (tm.map (Value.int .i64)) ∧ Y.rangeAt pb 0 (bb.map (Value.int .u8))) Y) (HL : ∀ Y, R0 Y → Y.rangeAt p9 0 (sm.map (Value.int .i64)) ∧ Y.there p9 0 17)
    (HB : ∀ Y, R0 Y → Calls Try.prog 43 #[.agg (VI .u8 bb)] Y fun e w' => e = .returned (.agg (VI .i64 z0)) ∧ R0 w')
    (HA : ∀ Y, R0 Y → Calls Try.prog 42 #[(.agg (VI .i64 sm)), (.agg (VI .i64 z0))] Y fun e w' => e = .returned (.agg (VI .i64 z1)) ∧ R0 w')
    (HM : ∀ Y, R0 Y → Calls Try.prog 41 #[(.agg (VI .i64 z1)), (.agg (VI .i64 tm))] Y fun e w' => e = .returned (.agg (VI .i64 z2)) ∧ R0 w')
    (HW : ∀ Y, R0 Y → R1 (Y.setCells p9 0 (VI .i64 z2).toList))
    (HPN : ∀ c (a : Act) d v w, Q (.panic c) (a.put d v) w → Q (.panic c) a w)
    (H : ∀ Y, R1 Y → Q .normal ((((((a0.put (some 60) (.agg (VI .u8 bb))).put (some 63) (.agg (VI .i64 tm))).put (some 59) (.agg (VI .i64 sm))).put (some 61) (.agg (VI .i64 z0))).put (some 62) (.agg (VI .i64 z1))).put (some 64) (.agg (VI .i64 z2))) Y) : Code.wp Try.prog rgRt19 Q a0 W := by
  have L6 : ∀ Y, R0 Y → wpAnyH Try.prog .any opRt19 Q (fun Y : World => Y.rangeAt p8 0 (tm.map (Value.int .i64)) ∧ Y.rangeAt pb 0 (bb.map (Value.int .u8))) 1 #[true, true, true, true, true, true, false] ((((((a0.put (some 60) (.agg (VI .u8 bb))).put (some 63) (.agg (VI .i64 tm))).put (some 59) (.agg (VI .i64 sm))).put (some 61) (.agg (VI .i64 z0))).put (some 62) (.agg (VI .i64 z1))).put (some 64) (.agg (VI .i64 z2))) Y := fun Y h => by
    have q1 : ((((((a0.put (some 60) (.agg (VI .u8 bb))).put (some 63) (.agg (VI .i64 tm))).put (some 59) (.agg (VI .i64 sm))).put (some 61) (.agg (VI .i64 z0))).put (some 62) (.agg (VI .i64 z1))).put (some 64) (.agg (VI .i64 z2))).eval (.tmp 9) = .pointer (some ⟨p9, 0, none⟩) := by rw [eval_put_ne _ _ _ _ (by decide)]; rw [eval_put_ne _ _ _ _ (by decide)]; rw [eval_put_ne _ _ _ _ (by decide)]; rw [eval_put_ne _ _ _ _ (by decide)]; rw [eval_put_ne _ _ _ _ (by decide)]; rw [eval_put_ne _ _ _ _ (by decide)]; exact e9
    have q2 : ((((((a0.put (some 60) (.agg (VI .u8 bb))).put (some 63) (.agg (VI .i64 tm))).put (some 59) (.agg (VI .i64 sm))).put (some 61) (.agg (VI .i64 z0))).put (some 62) (.agg (VI .i64 z1))).put (some 64) (.agg (VI .i64 z2))).eval (.tmp 64) = (.agg (VI .i64 z2)) := by exact eval_put_eq _ _ _ (by simp only [size_put, sz]; decide)
    have key : (fun Y : World => Y.rangeAt p8 0 (tm.map (Value.int .i64)) ∧ Y.rangeAt pb 0 (bb.map (Value.int .u8))) (Y.setCells p9 0 (VI .i64 z2).toList) ∧ wpAnyH Try.prog .any opRt19 Q (fun Y : World => Y.rangeAt p8 0 (tm.map (Value.int .i64)) ∧ Y.rangeAt pb 0 (bb.map (Value.int .u8))) 0 #[true, true, true, true, true, true, true] ((((((a0.put (some 60) (.agg (VI .u8 bb))).put (some 63) (.agg (VI .i64 tm))).put (some 59) (.agg (VI .i64 sm))).put (some 61) (.agg (VI .i64 z0))).put (some 62) (.agg (VI .i64 z1))).put (some 64) (.agg (VI .i64 z2))) (Y.setCells p9 0 (VI .i64 z2).toList) := ⟨HS1 _ (HW Y h), wpAnyH_done (by kernel_rfl) (H _ (HW Y h)) _⟩
    refine readyH opRt19_6 (by kernel_rfl) (fun o ho hd => ?_)
    refine wp_store_mid (P := Try.prog) 91 (.tmp 9) (.tmp 64) ho p9 0 (VI .i64 z2) q1 q2 (by rw [VI_size, hz]; exact (HL Y h).2) (by rw [VI_size, hz]; exact infoNum) (VI_one _ _) ?_
    rw [hd, put_none]
    refine ⟨key.1, wpAnyH_as (l' := #[true, true, true, true, true, true, true]) (by kernel_rfl) key.2⟩
  have L5 : ∀ Y, R0 Y → wpAnyH Try.prog .any opRt19 Q (fun Y : World => Y.rangeAt p8 0 (tm.map (Value.int .i64)) ∧ Y.rangeAt pb 0 (bb.map (Value.int .u8))) 2 #[true, true, true, true, true, false, false] (((((a0.put (some 60) (.agg (VI .u8 bb))).put (some 63) (.agg (VI .i64 tm))).put (some 59) (.agg (VI .i64 sm))).put (some 61) (.agg (VI .i64 z0))).put (some 62) (.agg (VI .i64 z1))) Y := fun Y h => by
    have q1 : (((((a0.put (some 60) (.agg (VI .u8 bb))).put (some 63) (.agg (VI .i64 tm))).put (some 59) (.agg (VI .i64 sm))).put (some 61) (.agg (VI .i64 z0))).put (some 62) (.agg (VI .i64 z1))).eval (.tmp 62) = (.agg (VI .i64 z1)) := by exact eval_put_eq _ _ _ (by simp only [size_put, sz]; decide)
    have q2 : (((((a0.put (some 60) (.agg (VI .u8 bb))).put (some 63) (.agg (VI .i64 tm))).put (some 59) (.agg (VI .i64 sm))).put (some 61) (.agg (VI .i64 z0))).put (some 62) (.agg (VI .i64 z1))).eval (.tmp 63) = (.agg (VI .i64 tm)) := by rw [eval_put_ne _ _ _ _ (by decide)]; rw [eval_put_ne _ _ _ _ (by decide)]; rw [eval_put_ne _ _ _ _ (by decide)]; exact eval_put_eq _ _ _ (by simp only [size_put, sz]; decide)
    refine readyH opRt19_5 (by kernel_rfl) (fun o ho hd => wpCall (v := (.agg (VI .i64 z2))) ho hd (args := #[(.agg (VI .i64 z1)), (.agg (VI .i64 tm))]) (by simp only [List.map_toArray, List.map_cons, List.map_nil, q1, q2]) (fun _ => rfl) (HM Y h) (fun w' hw' => ⟨HS0 _ hw', ?_⟩))
    refine wpAnyH_as (l' := #[true, true, true, true, true, true, false]) (by kernel_rfl) ?_
    exact L6 w' hw'
  have L3 : ∀ Y, R0 Y → wpAnyH Try.prog .any opRt19 Q (fun Y : World => Y.rangeAt p8 0 (tm.map (Value.int .i64)) ∧ Y.rangeAt pb 0 (bb.map (Value.int .u8))) 3 #[true, true, true, false, true, false, false] ((((a0.put (some 60) (.agg (VI .u8 bb))).put (some 63) (.agg (VI .i64 tm))).put (some 59) (.agg (VI .i64 sm))).put (some 61) (.agg (VI .i64 z0))) Y := fun Y h => by
    have q1 : ((((a0.put (some 60) (.agg (VI .u8 bb))).put (some 63) (.agg (VI .i64 tm))).put (some 59) (.agg (VI .i64 sm))).put (some 61) (.agg (VI .i64 z0))).eval (.tmp 59) = (.agg (VI .i64 sm)) := by rw [eval_put_ne _ _ _ _ (by decide)]; exact eval_put_eq _ _ _ (by simp only [size_put, sz]; decide)
    have q2 : ((((a0.put (some 60) (.agg (VI .u8 bb))).put (some 63) (.agg (VI .i64 tm))).put (some 59) (.agg (VI .i64 sm))).put (some 61) (.agg (VI .i64 z0))).eval (.tmp 61) = (.agg (VI .i64 z0)) := by exact eval_put_eq _ _ _ (by simp only [size_put, sz]; decide)
    refine readyH opRt19_3 (by kernel_rfl) (fun o ho hd => wpCall (v := (.agg (VI .i64 z1))) ho hd (args := #[(.agg (VI .i64 sm)), (.agg (VI .i64 z0))]) (by simp only [List.map_toArray, List.map_cons, List.map_nil, q1, q2]) (fun _ => rfl) (HA Y h) (fun w' hw' => ⟨HS0 _ hw', ?_⟩))
    refine wpAnyH_as (l' := #[true, true, true, true, true, false, false]) (by kernel_rfl) ?_
    exact L5 w' hw'
  have L2 : ∀ Y, R0 Y → wpAnyH Try.prog .any opRt19 Q (fun Y : World => Y.rangeAt p8 0 (tm.map (Value.int .i64)) ∧ Y.rangeAt pb 0 (bb.map (Value.int .u8))) 4 #[true, true, false, false, true, false, false] (((a0.put (some 60) (.agg (VI .u8 bb))).put (some 63) (.agg (VI .i64 tm))).put (some 59) (.agg (VI .i64 sm))) Y := fun Y h => by
    have q1 : (((a0.put (some 60) (.agg (VI .u8 bb))).put (some 63) (.agg (VI .i64 tm))).put (some 59) (.agg (VI .i64 sm))).eval (.tmp 60) = .agg (VI .u8 bb) := by rw [eval_put_ne _ _ _ _ (by decide)]; rw [eval_put_ne _ _ _ _ (by decide)]; exact eval_put_eq _ _ _ (by simp only [size_put, sz]; decide)
    refine readyH opRt19_2 (by kernel_rfl) (fun o ho hd => wpCall (v := (.agg (VI .i64 z0))) ho hd (args := #[.agg (VI .u8 bb)]) (by simp only [List.map_toArray, List.map_cons, List.map_nil, q1]) (fun _ => rfl) (HB Y h) (fun w' hw' => ⟨HS0 _ hw', ?_⟩))
    refine wpAnyH_as (l' := #[true, true, true, false, true, false, false]) (by kernel_rfl) ?_
    exact L3 w' hw'
  have L0 : ∀ Y, R0 Y → wpAnyH Try.prog .any opRt19 Q (fun Y : World => Y.rangeAt p8 0 (tm.map (Value.int .i64)) ∧ Y.rangeAt pb 0 (bb.map (Value.int .u8))) 5 #[false, true, false, false, true, false, false] ((a0.put (some 60) (.agg (VI .u8 bb))).put (some 63) (.agg (VI .i64 tm))) Y := fun Y h => by
    have q0 : ((a0.put (some 60) (.agg (VI .u8 bb))).put (some 63) (.agg (VI .i64 tm))).eval (.tmp 9) = .pointer (some ⟨p9, 0, none⟩) := by rw [eval_put_ne _ _ _ _ (by decide)]; rw [eval_put_ne _ _ _ _ (by decide)]; exact e9
    have q1 : ((a0.put (some 60) (.agg (VI .u8 bb))).put (some 63) (.agg (VI .i64 tm))).eval (.tmp 60) = .agg (VI .u8 bb) := by rw [eval_put_ne _ _ _ _ (by decide)]; exact eval_put_eq _ _ _ (by simp only [size_put, sz]; decide)
    refine readyH2 opRt19_0 opRt19_2 (by kernel_rfl) (fun o ho hd => wpRun (v := (.agg (VI .i64 sm))) (w' := Y) hd (run_ldNm hs ho q0 Y (HL Y h).1) ⟨HS0 _ h, ?_⟩) (fun o ho hd => wpCall (v := (.agg (VI .i64 z0))) ho hd (args := #[.agg (VI .u8 bb)]) (by simp only [List.map_toArray, List.map_cons, List.map_nil, q1]) (fun _ => rfl) (HB Y h) (fun w' hw' => ⟨HS0 _ hw', ?_⟩))
    · refine wpAnyH_as (l' := #[true, true, false, false, true, false, false]) (by kernel_rfl) ?_
      exact L2 Y h
    · refine wpAnyH_as (l' := #[false, true, true, false, true, false, false]) (by kernel_rfl) ?_
      have q2 : (((a0.put (some 60) (.agg (VI .u8 bb))).put (some 63) (.agg (VI .i64 tm))).put (some 61) (.agg (VI .i64 z0))).eval (.tmp 9) = .pointer (some ⟨p9, 0, none⟩) := by rw [eval_put_ne _ _ _ _ (by decide)]; exact q0
      refine readyH opRt19_0 (by kernel_rfl) (fun o ho hd => wpRun (v := (.agg (VI .i64 sm))) (w' := w') hd (run_ldNm hs ho q2 w' (HL w' hw').1) ⟨HS0 _ hw', ?_⟩)
      refine wpAnyH_as (l' := #[true, true, true, false, true, false, false]) (by kernel_rfl) ?_
      rw [put_comm _ _ _ (by decide)]
      exact L3 w' hw'
  rw [rgRt19_is]
  refine wp_region_held_drew (S := (fun Y : World => Y.rangeAt p8 0 (tm.map (Value.int .i64)) ∧ Y.rangeAt pb 0 (bb.map (Value.int .u8)))) (by kernel_rfl) (HS0 _ hR0) (fun hH => ?_)
  refine wpAnyH_as (l' := #[false, false, false, false, false, false, false]) (by kernel_rfl) ?_
  refine takeH (v := .agg (VI .u8 bb)) opRt19_1 opRt19_ns (by kernel_rfl) (by kernel_rfl) HPN (fun w hw o ho => run_ld17 hb ho e11 w hw.2) hH ?_
  refine wpAnyH_as (l' := #[false, true, false, false, false, false, false]) (by kernel_rfl) ?_
  refine takeH (v := (.agg (VI .i64 tm))) opRt19_4 opRt19_ns (by kernel_rfl) (by kernel_rfl) HPN (fun w hw o ho => run_ldNm ht ho (by rw [eval_put_ne _ _ _ _ (by decide)]; exact e8) w hw.1) hH ?_
  refine wpAnyH_as (l' := #[false, true, false, false, true, false, false]) (by kernel_rfl) ?_
  exact L0 _ hR0
end Go.Proofs.Ytgfamcadgahiiaa
