import Derived.Test.YtgfamcadgahiiaaMmap
import Derived.Test.YtgfamcadgahiiaaMmak
import Derived.Test.YtgfamcadgahiiaaMmam
namespace Go.Proofs.Ytgfamcadgahiiaa
set_option linter.unusedSimpArgs false
set_option linter.unusedVariables false
open Go.ChangeShapes Go.WideShapes Go.ChangeAt Go.RowKit Go.Pin Go.Prm
/-- the beginning of L, filled up -/
def fil (L : List Int) (i N : Nat) : List Int := L.take i ++ List.replicate (N - i) 0
theorem fil_len {L : List Int} {i N : Nat} (h : i ≤ L.length) (hN : i ≤ N) : (fil L i N).length = N := by simp [fil]; omega
theorem fil_set {L : List Int} {i N : Nat} (h : i < L.length) (hN : i < N) : (fil L i N).set i (L.getD i 0) = fil L (i + 1) N := by
  have hl : (L.take i).length = i := by rw [List.length_take]; omega
  have e : N - i = (N - (i + 1)) + 1 := by omega
  unfold fil
  rw [List.set_append_right _ _ (by omega), hl, Nat.sub_self, e, List.replicate_succ, List.set_cons_zero, List.take_add_one, List.getElem?_eq_getElem h, List.getD_eq_getElem?_getD, List.getElem?_eq_getElem h]
  simp only [Option.getD_some, Option.toList_some, List.append_assoc, List.cons_append, List.nil_append]
theorem fil_one {L : List Int} {N : Nat} (hN : L.length < N) : (fil L L.length N).set L.length 1 = L ++ 1 :: List.replicate (N - 1 - L.length) 0 := by
  have e : N - L.length = (N - 1 - L.length) + 1 := by omega
  unfold fil
  rw [List.take_length, List.set_append_right _ _ (Nat.le_refl _), Nat.sub_self, e, List.replicate_succ, List.set_cons_zero]
theorem Ev.setAt {B : Nat} {w : World} {rv : Value} {l : List (Int × Int)} {bx : List (Nat × Obj)} {W : World} {g : Nat} {M : List Int} {T : TypeId} (h : Ev B w rv l ((g, .cells (VI .u8 M) T) :: bx) W) (hne : ∀ p ∈ bx, p.1 ≠ g) (i : Nat) (hi : i < M.length) (v : Int) :
    W.cell? ⟨g, i, none⟩ = some (.int .u8 (M.getD i 0)) ∧ W.frozen? ⟨g, i, none⟩ = false ∧ Ev B w rv l ((g, .cells (VI .u8 (M.set i v)) T) :: bx) (W.setCell ⟨g, i, none⟩ (.int .u8 v)) := by
  have hr := h.row mem0
  refine ⟨by rw [cell_of_row W _ _ _ _ _ hr, VI_at _ _ _ hi], frozen_of_row W _ _ _ _ hr, ?_⟩
  refine h.set rfl hne ((Grow.refl (fun k => k = g) W).setCell (p := ⟨g, i, none⟩) (.inl rfl) _) ?_
  rw [heap_setCell_same W _ _ _ _ _ hr]
  simp [VI, List.map_set]
theorem zero17i_lit : VI .i64 (bts 0) = #[.int .i64 0, .int .i64 0, .int .i64 0, .int .i64 0, .int .i64 0, .int .i64 0, .int .i64 0, .int .i64 0, .int .i64 0, .int .i64 0, .int .i64 0, .int .i64 0, .int .i64 0, .int .i64 0, .int .i64 0, .int .i64 0, .int .i64 0] := by
  have : bts 0 = List.replicate 17 0 := by decide +kernel
  rw [this]
  rfl
theorem accN_snoc (r : List Int) : ∀ (j : Nat) (s D : List Int), accN r (j + 1) s D = wth r (accN r j s D) (blkOf ((D.drop (16 * j)).take 16))
  | 0, s, D => rfl
  | j + 1, s, D => by
    rw [accN, accN_snoc r j, accN, List.drop_drop]
    congr 4
    omega
theorem wrapN {a b : Nat} (ha : a ≤ 2000000) (hb : b ≤ 2000000) : wrap64 ((a : Int) + (b : Int)) = ((a + b : Nat) : Int) ∧ IntKind.i64.wrap ((a : Int) + (b : Int)) = ((a + b : Nat) : Int) := by
  rw [IntWalk.wrap64_in _ ⟨by omega, by omega⟩, IntWalk.i64_in _ ⟨by omega, by omega⟩]
  omega
theorem wrap16 {x : Nat} (h : x ≤ 1000000) : wrap64 ((x : Int) + 16) = ((x + 16 : Nat) : Int) := by
  rw [IntWalk.wrap64_in _ ⟨by omega, by omega⟩]
  omega
theorem meas16 {x n : Nat} (h : x < n) (hn : n ≤ 1000000) : n + 16 - (intOf (.int .i64 (wrap64 ((x : Int) + 16)))).toNat < n + 16 - (intOf (.int .i64 (x : Int))).toNat := by
  rw [wrap16 (by omega)]
  simp only [intOf]
  omega
theorem num_z5 : num z5 = 0 := by decide +kernel
theorem num_rOf {key : List Int} (hk : Key32 key) : num (rOf key) = nb (clp (key.take 16) ++ [0]) % P := num_blk (rOf_byt hk.len hk.bd)
theorem Key32.at {key : List Int} (h : Key32 key) (i : Nat) (hi : i < 32) : ∃ x, key[i]? = some x ∧ key.getD i 0 = x := ⟨key[i]'(by rw [h.len]; exact hi), List.getElem?_eq_getElem _, by rw [List.getD_eq_getElem?_getD, List.getElem?_eq_getElem (by rw [h.len]; exact hi)]; rfl⟩
set_option maxRecDepth 100000 in
set_option maxHeartbeats 16000000 in
theorem rtag_any (W : World) (key : List Int) (hk : Key32 key) (D : List Int) (hDb : Byt D) (a : Option Addr) (n cap : Nat) (hR : RdB W (.slice a n cap) D) (hn : n ≤ 1000000) :
    Calls Try.prog 14 #[.agg (VI .u8 key), .slice a n cap] W fun e w' => e = .returned (.agg (VI .u8 (mtag key D))) ∧ Below W.heap.size W w' := by
  obtain ⟨q, hq⟩ : ∃ q, W.heap.size = q := ⟨_, rfl⟩
  have e3 := ((((ev_nil' W).new (.cells (VI .u8 key) 23)).new (.cells (VI .u8 (List.replicate 16 0)) 36)).new (.cells (VI .u8 (List.replicate 16 0)) 35)).new (.cells (VI .u8 (List.replicate 16 0)) 35)
  simp only [size_alloc, hq] at e3
  obtain ⟨V0, hV0⟩ : ∃ V, W.alloc (.cells (VI .u8 key) 23) = V := ⟨_, rfl⟩
  obtain ⟨V1, hV1⟩ : ∃ V, V0.alloc (.cells (VI .u8 (List.replicate 16 0)) 36) = V := ⟨_, rfl⟩
  obtain ⟨V2, hV2⟩ : ∃ V, V1.alloc (.cells (VI .u8 (List.replicate 16 0)) 35) = V := ⟨_, rfl⟩
  obtain ⟨V3, hV3⟩ : ∃ V, V2.alloc (.cells (VI .u8 (List.replicate 16 0)) 35) = V := ⟨_, rfl⟩
  have s0 : V0.heap.size = q + 1 := by rw [← hV0, size_alloc, hq]
  have s1 : V1.heap.size = q + 1 + 1 := by rw [← hV1, size_alloc, s0]
  have s2 : V2.heap.size = q + 1 + 1 + 1 := by rw [← hV2, size_alloc, s1]
  rw [hV0, hV1, hV2, hV3] at e3
  rw [zero16_lit] at hV1 hV2 hV3
  have hSrc : ∀ i, i < n → ∃ b o, a = some ⟨b, o, none⟩ ∧ ∀ Y, Below q W Y → Y.cell? ⟨b, o + i, none⟩ = some (.int .u8 (D.getD i 0)) := fun i hi => by
    obtain ⟨a', c', e, hc, h3⟩ := hR
    injection e with e1 e2 e3
    subst e1
    have hDn : D.length = n := e2.symm
    rcases h3 with h3 | ⟨b, o, h3, h4⟩
    · rw [h3] at hDn; simp at hDn; omega
    · refine ⟨b, o, h3, fun Y hY => ?_⟩
      have := h4 i (.int .u8 (D.getD i 0)) (by rw [List.getElem?_map, List.getD_eq_getElem?_getD, List.getElem?_eq_getElem (by omega)]; rfl)
      rw [World.cell?_of_block (a := ⟨b, o + i, none⟩) (hY.block b (by rw [← hq]; exact World.block_lt_of_cell? W _ this))]
      exact this
  have hDn : D.length = n := by
    obtain ⟨a', c', e, _⟩ := hR
    injection e with _ e2 _
    exact e2.symm
  have H0 : Hid (Ev q W (.pointer none) [] [(q + 1 + 1 + 1, .cells (VI .u8 (fil (sOf key) 0 16)) 35), (q + 1 + 1, .cells (VI .u8 (fil (key.take 16) 0 16)) 35), (q + 1, .cells (VI .u8 (List.replicate 16 0)) 36), (q, .cells (VI .u8 key) 23)] V3) := e3
  have HK : Hid (Key32 key ∧ Byt D ∧ D.length = n ∧ n ≤ 1000000 ∧ (∀ i, i < n → ∃ b o, a = some ⟨b, o, none⟩ ∧ ∀ Y, Below q W Y → Y.cell? ⟨b, o + i, none⟩ = some (.int .u8 (D.getD i 0)))) := ⟨hk, hDb, hDn, hn, hSrc⟩
  have HI : Hid ((Try.prog.info? 23).map (·.size) = some (VI .u8 key).size) := by
    have : (Try.prog.info? 23).map (·.size) = some (VI .u8 key).size := by rw [VI_size, hk.len]; exact infoK
    exact this
  rw [hq]
  clear e3 hSrc hDn hR hk hDb hn
  go_enter Try.func14, Try.ntmps14
  go_wp2
  go_loopw [7] (fun v w' => ∃ i : Nat, i ≤ 16 ∧ v = .int .i64 (i : Int) ∧ Ev q W (.pointer none) [] [(q + 1 + 1 + 1, .cells (VI .u8 (fil (sOf key) i 16)) 35), (q + 1 + 1, .cells (VI .u8 (fil (key.take 16) i 16)) 35), (q + 1, .cells (VI .u8 (List.replicate 16 0)) 36), (q, .cells (VI .u8 key) 23)] w') (fun v _ => 16 - (intOf v).toNat)
  case atStart => exact ⟨0, Nat.zero_le _, rfl, H0.out⟩
  case round =>
    clear H0 hV0 hV1 hV2 hV3 s0 s1 s2
    obtain ⟨i, hi, rfl, he⟩ := hrel
    by_cases hlt : i < 16
    · have b1 : (i : Int) < 16 := by omega
      have hlo : (key.take 16).length = 16 := HK.out.1.lo.len
      have hhi : (sOf key).length = 16 := HK.out.1.hi.len
      have k1 : wr.cell? ⟨q, i, none⟩ = some (.int .u8 ((key.take 16).getD i 0)) := by
        rw [cell_of_row wr _ _ _ _ _ (he.row mem3), VI_at _ _ _ (by rw [HK.out.1.len]; omega), List.getD_eq_getElem?_getD, List.getD_eq_getElem?_getD, List.getElem?_take_of_lt hlt]
      obtain ⟨x1, hx1⟩ : ∃ x, (key.take 16).getD i 0 = x := ⟨_, rfl⟩
      obtain ⟨x2, hx2⟩ : ∃ x, (sOf key).getD i 0 = x := ⟨_, rfl⟩
      obtain ⟨c1, f1, e1⟩ := he.flip.setAt (fun p hp => by
        simp only [List.mem_cons, List.not_mem_nil, or_false] at hp
        rcases hp with rfl | rfl | rfl
        · show q + 1 + 1 + 1 ≠ q + 1 + 1; omega
        · show q + 1 ≠ q + 1 + 1; omega
        · show q ≠ q + 1 + 1; omega) i (by rw [fil_len (by rw [hlo]; omega) (by omega)]; exact hlt) ((key.take 16).getD i 0)
      rw [fil_set (by rw [hlo]; exact hlt) hlt, hx1] at e1
      rw [hx1] at k1
      obtain ⟨W1, hW1⟩ : ∃ V, wr.setCell ⟨q + 1 + 1, i, none⟩ (.int .u8 x1) = V := ⟨_, rfl⟩
      rw [hW1] at e1
      have k2 : W1.cell? ⟨q, 16 + i, none⟩ = some (.int .u8 x2) := by
        rw [cell_of_row W1 _ _ _ _ _ (e1.row mem3), VI_at _ _ _ (by rw [HK.out.1.len]; omega), ← hx2, sOf, List.getD_eq_getElem?_getD, List.getD_eq_getElem?_getD, List.getElem?_drop]
      obtain ⟨c2, f2, e2⟩ := e1.flip.setAt (fun p hp => by
        simp only [List.mem_cons, List.not_mem_nil, or_false] at hp
        rcases hp with rfl | rfl | rfl
        · show q + 1 + 1 ≠ q + 1 + 1 + 1; omega
        · show q + 1 ≠ q + 1 + 1 + 1; omega
        · show q ≠ q + 1 + 1 + 1; omega) i (by rw [fil_len (by rw [hhi]; omega) (by omega)]; exact hlt) ((sOf key).getD i 0)
      rw [fil_set (by rw [hhi]; exact hlt) hlt, hx2] at e2
      obtain ⟨W2, hW2⟩ : ∃ V, W1.setCell ⟨q + 1 + 1 + 1, i, none⟩ (.int .u8 x2) = V := ⟨_, rfl⟩
      rw [hW2] at e2
      have b2 : (16 : Int) + (i : Int) < 32 := by omega
      have b3 : (0 : Int) ≤ 16 + (i : Int) := by omega
      have b4 : ((16 : Int) + (i : Int)).toNat = 16 + i := by omega
      have b5 : ((16 : Int) + (i : Int)) = ((16 + i : Nat) : Int) := by omega
      have HE : Hid _ := e2
      have HLT : Hid (i < 16) := hlt
      clear e1 e2 he hlo hhi hx1 hx2 hi b5
      go_wp2
      go_roundw
      case rel => exact ⟨i + 1, HLT.out, by go_num, HE.out⟩
      case measure => have := HLT.out; simp only [intOf]; omega
    · have ei : i = 16 := by omega
      subst ei
      have ef1 : fil (sOf key) 16 16 = sOf key := by
        unfold fil
        rw [List.take_of_length_le (by rw [HK.out.1.hi.len]; exact Nat.le_refl _)]
        simp
      have ef2 : fil (key.take 16) 16 16 = key.take 16 := by
        unfold fil
        rw [List.take_of_length_le (by rw [HK.out.1.lo.len]; exact Nat.le_refl _)]
        simp
      rw [ef1, ef2] at he
      have H1 : Hid (Ev q W (.pointer none) [] [(q + 1 + 1 + 1, .cells (VI .u8 (sOf key)) 35), (q + 1, .cells (VI .u8 (List.replicate 16 0)) 36)] wr) := he.sub (fun p hp => by
        simp only [List.mem_cons, List.not_mem_nil, or_false] at hp ⊢
        rcases hp with rfl | rfl
        · exact .inl rfl
        · exact .inr (.inr (.inl rfl)))
      have HLD : Hid (wr.rangeAt (q + 1 + 1) 0 ((key.take 16).map (Value.int .u8))) := row_range (he.row mem1)
      have HI16 : Hid ((Try.prog.info? 35).map (·.size) = some (key.take 16).length) := by
        have : (Try.prog.info? 35).map (·.size) = some (key.take 16).length := by rw [HK.out.1.lo.len]; kernel_rfl
        exact this
      have CC : Hid (Calls Try.prog 40 #[.agg (VI .u8 (key.take 16))] wr fun e w' => e = .returned (.agg (VI .i64 (bts (num (rOf key))))) ∧ Below wr.heap.size wr w') := by
        have := rclamp_any (key.take 16) HK.out.1.lo wr
        rw [← num_rOf HK.out.1] at this
        exact this
      clear he hi hlt ef1 ef2
      go_upto_region 9 with (first | (go_at_call 40; refine Calls.mono CC.out ?_; rintro e W2 ⟨rfl, hb⟩; have H2 : Hid _ := H1.out.below hb; clear hb) | (with_reducible refine at_list ?_; first | (refine load_midI rfl 35 (.tmp 5) rfl (q + 1 + 1) 0 rfl .u8 (key.take 16) _ HLD.out Try.underlying35 rfl HI16.out ?_) | (refine hold_store 91 (.tmp 8) (.tmp 29) rfl ?_)))
      refine store_row_new rfl 91 (.tmp 8) (.tmp 29) rfl W2.heap.size (VI .i64 (bts (num (rOf key)))) rfl rfl rfl 91 (VI .i64 (List.replicate 17 0)) (by rw [VI_size, bts_len]; exact infoNum) (by rw [VI_size, VI_size, bts_len]; rfl) (VI_one _ _) ?_
      have h3 := H2.out.new (.cells (VI .i64 (bts (num (rOf key)))) 91)
      have hp83 := H2.out.lt mem0
      obtain ⟨p8, hp8⟩ : ∃ p, W2.heap.size = p := ⟨_, rfl⟩
      obtain ⟨W3, hW3⟩ : ∃ V, W2.alloc (.cells (VI .i64 (bts (num (rOf key)))) 91) = V := ⟨_, rfl⟩
      rw [hW3, hp8] at h3 ⊢
      rw [hp8] at hp83
      have h4 := h3.new (.cells (VI .i64 (bts (num (accN (rOf key) 0 z5 D)))) 91)
      have hp98 := h3.lt mem0
      obtain ⟨p9, hp9⟩ : ∃ p, W3.heap.size = p := ⟨_, rfl⟩
      obtain ⟨W4, hW4⟩ : ∃ V, W3.alloc (.cells (VI .i64 (bts (num (accN (rOf key) 0 z5 D)))) 91) = V := ⟨_, rfl⟩
      rw [hW4, hp9] at h4
      rw [hp9] at hp98
      have ez : num (accN (rOf key) 0 z5 D) = 0 := num_z5
      rw [ez, zero17i_lit] at hW4
      have H4 : Hid _ := h4
      have HN : Hid (q + 1 + 1 + 1 < p8 ∧ p8 < p9) := ⟨hp83, hp98⟩
      have HW4 : Hid _ := hW4
      have HP9 : Hid (W3.heap.size = p9) := hp9
      clear h3 h4 hp83 hp98 hW3 hp8 H2 H1 HLD HI16 CC ez hW4 hp9
      go_upto_region 10 with (with_reducible refine at_list ?_; first | (refine hold_store 91 (.tmp 9) (.tmp 30) rfl ?_))
      refine store_row_new rfl 91 (.tmp 9) (.tmp 30) rfl W3.heap.size #[.int .i64 0, .int .i64 0, .int .i64 0, .int .i64 0, .int .i64 0, .int .i64 0, .int .i64 0, .int .i64 0, .int .i64 0, .int .i64 0, .int .i64 0, .int .i64 0, .int .i64 0, .int .i64 0, .int .i64 0, .int .i64 0, .int .i64 0] rfl rfl rfl 91 #[.int .i64 0, .int .i64 0, .int .i64 0, .int .i64 0, .int .i64 0, .int .i64 0, .int .i64 0, .int .i64 0, .int .i64 0, .int .i64 0, .int .i64 0, .int .i64 0, .int .i64 0, .int .i64 0, .int .i64 0, .int .i64 0, .int .i64 0] infoNum rfl (VI_one .i64 (List.replicate 17 0)) ?_
      rw [HW4.out, HP9.out]
      go_wp2_with fail
      go_loopw [10] (fun v w' => ∃ (j x : Nat), x = 16 * j ∧ x < n + 16 ∧ v = .int .i64 (x : Int) ∧ Ev q W (.pointer none) [] [(p9, Obj.cells (VI .i64 (bts (num (accN (rOf key) j z5 D)))) 91), (p8, .cells (VI .i64 (bts (num (rOf key)))) 91), (q + 1 + 1 + 1, .cells (VI .u8 (sOf key)) 35), (q + 1, .cells (VI .u8 (List.replicate 16 0)) 36)] w') (fun v _ => n + 16 - (intOf v).toNat)
      case atStart => exact ⟨0, 0, rfl, by omega, rfl, H4.out⟩
      case round =>
        clear H4 HW4 HP9
        obtain ⟨j, x, hx, hxn, rfl, he⟩ := hrel
        by_cases hlt : x < n
        · have b1 : (x : Int) < (n : Int) := by omega
          obtain ⟨X, hX⟩ : ∃ X, (D.drop x).take 16 = X := ⟨_, rfl⟩
          have hlX : X.length = min 16 (n - x) := by rw [← hX, List.length_take, List.length_drop, HK.out.2.2.1]
          have HXB : Hid (Byt X ∧ X.length ≤ 16 ∧ accN (rOf key) (j + 1) z5 D = wth (rOf key) (accN (rOf key) j z5 D) (blkOf X)) := by
            have : Byt X ∧ X.length ≤ 16 ∧ accN (rOf key) (j + 1) z5 D = wth (rOf key) (accN (rOf key) j z5 D) (blkOf X) := by
              refine ⟨fun y hy => HK.out.2.1 y (List.mem_of_mem_drop (List.mem_of_mem_take (by rw [hX]; exact hy : y ∈ (D.drop x).take 16))), by omega, ?_⟩
              rw [accN_snoc, ← hx, hX]
            exact this
          have HX : Hid (x = 16 * j ∧ x < n ∧ X.length = min 16 (n - x) ∧ (∀ k, k < X.length → X.getD k 0 = D.getD (x + k) 0)) := by
            have : x = 16 * j ∧ x < n ∧ X.length = min 16 (n - x) ∧ (∀ k, k < X.length → X.getD k 0 = D.getD (x + k) 0) := ⟨hx, hlt, hlX, fun k hk => by
              rw [← hX, List.getD_eq_getElem?_getD, List.getD_eq_getElem?_getD, List.getElem?_take_of_lt (by omega), List.getElem?_drop]⟩
            exact this
          have e1 := he.new (.cells (VI .u8 (fil X 0 17)) 67)
          have hpb9 := he.lt mem0
          have hpb8 := he.lt mem1
          have hpb3 := he.lt mem2
          have hpb1 := he.lt mem3
          obtain ⟨pb, hpb⟩ : ∃ p, wr.heap.size = p := ⟨_, rfl⟩
          obtain ⟨W1, hW1⟩ : ∃ V, wr.alloc (.cells (VI .u8 (fil X 0 17)) 67) = V := ⟨_, rfl⟩
          rw [hW1, hpb] at e1
          rw [hpb] at hpb9 hpb8 hpb3 hpb1
          have ez : fil X 0 17 = List.replicate 17 0 := rfl
          rw [ez, zero17_lit] at hW1
          have HNB : Hid (∀ p ∈ [(p9, Obj.cells (VI .i64 (bts (num (accN (rOf key) j z5 D)))) 91), (p8, .cells (VI .i64 (bts (num (rOf key)))) 91), (q + 1 + 1 + 1, .cells (VI .u8 (sOf key)) 35), (q + 1, .cells (VI .u8 (List.replicate 16 0)) 36)], p.1 ≠ pb) := by
            have : ∀ p ∈ ([(p9, Obj.cells (VI .i64 (bts (num (accN (rOf key) j z5 D)))) 91), (p8, .cells (VI .i64 (bts (num (rOf key)))) 91), (q + 1 + 1 + 1, .cells (VI .u8 (sOf key)) 35), (q + 1, .cells (VI .u8 (List.replicate 16 0)) 36)] : List (Nat × Obj)), p.1 ≠ pb := fun p hp => by
              simp only [List.mem_cons, List.not_mem_nil, or_false] at hp
              rcases hp with rfl | rfl | rfl | rfl
              · show p9 ≠ pb; omega
              · show p8 ≠ pb; omega
              · show q + 1 + 1 + 1 ≠ pb; omega
              · show q + 1 ≠ pb; omega
            exact this
          have HN9 : Hid (∀ p ∈ [(pb, Obj.cells (VI .u8 (blkOf X)) 67), (p8, .cells (VI .i64 (bts (num (rOf key)))) 91), (q + 1 + 1 + 1, .cells (VI .u8 (sOf key)) 35), (q + 1, .cells (VI .u8 (List.replicate 16 0)) 36)], p.1 ≠ p9) := by
            have : ∀ p ∈ [(pb, Obj.cells (VI .u8 (blkOf X)) 67), (p8, .cells (VI .i64 (bts (num (rOf key)))) 91), (q + 1 + 1 + 1, .cells (VI .u8 (sOf key)) 35), (q + 1, .cells (VI .u8 (List.replicate 16 0)) 36)], p.1 ≠ p9 := fun p hp => by
              have := HN.out
              simp only [List.mem_cons, List.not_mem_nil, or_false] at hp
              rcases hp with rfl | rfl | rfl | rfl
              · show pb ≠ p9; omega
              · show p8 ≠ p9; omega
              · show q + 1 + 1 + 1 ≠ p9; omega
              · show q + 1 ≠ p9; omega
            exact this
          have E1 : Hid (Ev q W (.pointer none) [] ((pb, .cells (VI .u8 (fil X 0 17)) 67) :: [(p9, Obj.cells (VI .i64 (bts (num (accN (rOf key) j z5 D)))) 91), (p8, .cells (VI .i64 (bts (num (rOf key)))) 91), (q + 1 + 1 + 1, .cells (VI .u8 (sOf key)) 35), (q + 1, .cells (VI .u8 (List.replicate 16 0)) 36)]) W1) := e1
          clear e1 he hpb9 hpb8 hpb3 hpb1 hX hx hxn ez
          go_upto_region 14 with fail
          go_wp2_with fail
          go_loopw [12] (fun v w' => ∃ k : Nat, k ≤ X.length ∧ v = .int .i64 (k : Int) ∧ Ev q W (.pointer none) [] ((pb, .cells (VI .u8 (fil X k 17)) 67) :: [(p9, Obj.cells (VI .i64 (bts (num (accN (rOf key) j z5 D)))) 91), (p8, .cells (VI .i64 (bts (num (rOf key)))) 91), (q + 1 + 1 + 1, .cells (VI .u8 (sOf key)) 35), (q + 1, .cells (VI .u8 (List.replicate 16 0)) 36)]) w') (fun v _ => 16 - (intOf v).toNat)
          case atStart => exact ⟨0, Nat.zero_le _, rfl, E1.out⟩
          case round =>
            clear E1 hW1 hpb
            obtain ⟨k, hk2, rfl, he2⟩ := hrel
            have hlX := HX.out.2.2.1
            by_cases hk16 : k < 16
            · have b5 : (k : Int) < 16 := by omega
              have HW : Hid (wrap64 ((x : Int) + (k : Int)) = ((x + k : Nat) : Int) ∧ IntKind.i64.wrap ((x : Int) + (k : Int)) = ((x + k : Nat) : Int)) := wrapN (a := x) (b := k) (by have := HK.out.2.2.2.1; omega) (by omega)
              by_cases hkn : x + k < n
              · have hkX : k < X.length := by omega
                obtain ⟨b, o, rfl, hcc⟩ := HK.out.2.2.2.2 (x + k) hkn
                have c0 := hcc wr he2.old
                rw [← HX.out.2.2.2 k hkX] at c0
                obtain ⟨c1, f1, e1⟩ := he2.setAt HNB.out k (by rw [fil_len (by omega) (by omega)]; omega) (X.getD k 0)
                rw [fil_set hkX (by omega)] at e1
                obtain ⟨v, hv⟩ : ∃ v, X.getD k 0 = v := ⟨_, rfl⟩
                rw [hv] at c0 e1
                obtain ⟨y, hy⟩ : ∃ y, x + k = y := ⟨_, rfl⟩
                have b6 : (y : Int) < (n : Int) := by omega
                have b6' : y < n := by omega
                have b9 : (k : Int) < 17 := by omega
                have HE : Hid _ := e1
                have HKX : Hid (k < X.length ∧ X.length ≤ 16) := ⟨hkX, by omega⟩
                obtain ⟨hw, hw'⟩ := HW.out
                rw [hy] at hw hw' c0
                clear e1 he2 hcc hlX hkX hk2 hkn hv hy hk16
                go_wp2
                go_roundw
                case rel => exact ⟨k + 1, HKX.out.1, by go_num, HE.out⟩
                case measure => have := HKX.out; simp only [intOf]; omega
              · obtain ⟨y, hy⟩ : ∃ y, x + k = y := ⟨_, rfl⟩
                have b6 : ¬ (y : Int) < (n : Int) := by omega
                have b6' : ¬ y < n := by omega
                obtain ⟨c1, f1, e1⟩ := he2.setAt HNB.out k (by rw [fil_len (by omega) (by omega)]; omega) 1
                have ekl : k = X.length := by omega
                have efil : (fil X k 17).set k 1 = blkOf X := by rw [ekl, fil_one (by omega)]; rfl
                rw [efil] at e1
                obtain ⟨W5, hW5⟩ : ∃ V, wr.setCell ⟨pb, k, none⟩ (.int .u8 1) = V := ⟨_, rfl⟩
                rw [hW5] at e1
                have b9 : (k : Int) < 17 := by omega
                have E5 : Hid (Ev q W (.pointer none) [] ((pb, .cells (VI .u8 (blkOf X)) 67) :: [(p9, Obj.cells (VI .i64 (bts (num (accN (rOf key) j z5 D)))) 91), (p8, .cells (VI .i64 (bts (num (rOf key)))) 91), (q + 1 + 1 + 1, .cells (VI .u8 (sOf key)) 35), (q + 1, .cells (VI .u8 (List.replicate 16 0)) 36)]) W5) := e1
                clear e1 he2 ekl efil hk2 hlX hkn hk16
                obtain ⟨hw, hw'⟩ := HW.out
                rw [hy] at hw hw'
                clear hy
                go_upto_region 19 with fail
                refine wp_as (c' := rgRt19) (by kernel_rfl) ?_
                have hlim := accN_lim (rOf_lim HK.out.1.len HK.out.1.bd) j z5 D z5_lim HK.out.2.1
                have hXb : Byt X := HXB.out.1
                have hb17 : Key17 (blkOf X) := ⟨blkOf_len HXB.out.2.1, blkOf_byt hXb⟩
                refine Rt19 (p8 := p8) (p9 := p9) (pb := pb) (tm := bts (num (rOf key))) (sm := bts (num (accN (rOf key) j z5 D))) (z0 := bts (nb (blkOf X) % P)) (z1 := bts ((num (accN (rOf key) j z5 D) + nb (blkOf X) % P) % P)) (z2 := bts ((num (accN (rOf key) j z5 D) + nb (blkOf X) % P) % P * num (rOf key) % P)) (bb := blkOf X)
                  (R0 := Ev q W (.pointer none) [] ((pb, .cells (VI .u8 (blkOf X)) 67) :: [(p9, Obj.cells (VI .i64 (bts (num (accN (rOf key) j z5 D)))) 91), (p8, .cells (VI .i64 (bts (num (rOf key)))) 91), (q + 1 + 1 + 1, .cells (VI .u8 (sOf key)) 35), (q + 1, .cells (VI .u8 (List.replicate 16 0)) 36)]))
                  (R1 := Ev q W (.pointer none) [] [(p9, .cells (VI .i64 (bts (num (accN (rOf key) (j + 1) z5 D)))) 91), (pb, .cells (VI .u8 (blkOf X)) 67), (p8, .cells (VI .i64 (bts (num (rOf key)))) 91), (q + 1 + 1 + 1, .cells (VI .u8 (sOf key)) 35), (q + 1, .cells (VI .u8 (List.replicate 16 0)) 36)])
                  rfl rfl rfl rfl (bts_len _) (bts_len _) hb17.len (bts_len _) E5.out.drew (fun Y h => ⟨row_range (h.row mem2), row_range (h.row mem0)⟩) (fun Y h => ⟨row_range (h.row mem2), row_range (h.row mem1)⟩) (fun Y h => ⟨row_range (h.row mem1), by have := row_there (h.row mem1); rw [bts_len] at this; exact this⟩) ?_ ?_ ?_ ?_ (fun _ _ d _ _ h => by cases d <;> exact h) ?_
                · exact fun Y h => (rblock_any (blkOf X) hb17 Y).mono fun e w' hh => ⟨hh.1, h.below hh.2⟩
                · exact fun Y h => (radd_any _ _ (num_lt _) (Nat.mod_lt _ (by decide)) Y).mono fun e w' hh => ⟨hh.1, h.below hh.2⟩
                · exact fun Y h => (rmul_any _ _ (Nat.mod_lt _ (by decide)) (num_lt _) Y).mono fun e w' hh => ⟨hh.1, h.below hh.2⟩
                · intro Y h
                  have := h.flip.storeRow (L' := bts ((num (accN (rOf key) j z5 D) + nb (blkOf X) % P) % P * num (rOf key) % P)) HN9.out (by rw [bts_len, bts_len])
                  rw [← num_wth (rOf_lim HK.out.1.len HK.out.1.bd) hlim (blkOf_byt hXb), ← HXB.out.2.2] at this ⊢
                  exact this
                intro W6 h6
                have H6 : Hid _ := h6.flip.tail
                clear h6 hb17 hXb hlim E5 hW5 c1 f1
                simp only [Act.put, List.setIfInBounds_toArray, List.set_cons_zero, List.set_cons_succ]
                go_wp2_with fail
                go_roundw
                case rel => exact ⟨j + 1, x + 16, by have := HX.out.1; omega, by have := HX.out.2.1; omega, congrArg (Value.int .i64) (wrap16 (Nat.le_of_lt (Nat.lt_of_lt_of_le HX.out.2.1 HK.out.2.2.2.1))), H6.out⟩
                case measure => exact meas16 HX.out.2.1 HK.out.2.2.2.1
            · have b5 : ¬ (k : Int) < 16 := by omega
              obtain ⟨c1, f1, e1⟩ := he2.setAt HNB.out k (by rw [fil_len (by omega) (by omega)]; omega) 1
              have ekl : k = X.length := by omega
              have efil : (fil X k 17).set k 1 = blkOf X := by rw [ekl, fil_one (by omega)]; rfl
              rw [efil] at e1
              obtain ⟨W5, hW5⟩ : ∃ V, wr.setCell ⟨pb, k, none⟩ (.int .u8 1) = V := ⟨_, rfl⟩
              rw [hW5] at e1
              have b9 : (k : Int) < 17 := by omega
              have E5 : Hid (Ev q W (.pointer none) [] ((pb, .cells (VI .u8 (blkOf X)) 67) :: [(p9, Obj.cells (VI .i64 (bts (num (accN (rOf key) j z5 D)))) 91), (p8, .cells (VI .i64 (bts (num (rOf key)))) 91), (q + 1 + 1 + 1, .cells (VI .u8 (sOf key)) 35), (q + 1, .cells (VI .u8 (List.replicate 16 0)) 36)]) W5) := e1
              clear e1 he2 ekl efil hk2 hlX hk16
              go_upto_region 19 with fail
              refine wp_as (c' := rgRt19) (by kernel_rfl) ?_
              have hlim := accN_lim (rOf_lim HK.out.1.len HK.out.1.bd) j z5 D z5_lim HK.out.2.1
              have hXb : Byt X := HXB.out.1
              have hb17 : Key17 (blkOf X) := ⟨blkOf_len HXB.out.2.1, blkOf_byt hXb⟩
              refine Rt19 (p8 := p8) (p9 := p9) (pb := pb) (tm := bts (num (rOf key))) (sm := bts (num (accN (rOf key) j z5 D))) (z0 := bts (nb (blkOf X) % P)) (z1 := bts ((num (accN (rOf key) j z5 D) + nb (blkOf X) % P) % P)) (z2 := bts ((num (accN (rOf key) j z5 D) + nb (blkOf X) % P) % P * num (rOf key) % P)) (bb := blkOf X)
                (R0 := Ev q W (.pointer none) [] ((pb, .cells (VI .u8 (blkOf X)) 67) :: [(p9, Obj.cells (VI .i64 (bts (num (accN (rOf key) j z5 D)))) 91), (p8, .cells (VI .i64 (bts (num (rOf key)))) 91), (q + 1 + 1 + 1, .cells (VI .u8 (sOf key)) 35), (q + 1, .cells (VI .u8 (List.replicate 16 0)) 36)]))
                (R1 := Ev q W (.pointer none) [] [(p9, .cells (VI .i64 (bts (num (accN (rOf key) (j + 1) z5 D)))) 91), (pb, .cells (VI .u8 (blkOf X)) 67), (p8, .cells (VI .i64 (bts (num (rOf key)))) 91), (q + 1 + 1 + 1, .cells (VI .u8 (sOf key)) 35), (q + 1, .cells (VI .u8 (List.replicate 16 0)) 36)])
                rfl rfl rfl rfl (bts_len _) (bts_len _) hb17.len (bts_len _) E5.out.drew (fun Y h => ⟨row_range (h.row mem2), row_range (h.row mem0)⟩) (fun Y h => ⟨row_range (h.row mem2), row_range (h.row mem1)⟩) (fun Y h => ⟨row_range (h.row mem1), by have := row_there (h.row mem1); rw [bts_len] at this; exact this⟩) ?_ ?_ ?_ ?_ (fun _ _ d _ _ h => by cases d <;> exact h) ?_
              · exact fun Y h => (rblock_any (blkOf X) hb17 Y).mono fun e w' hh => ⟨hh.1, h.below hh.2⟩
              · exact fun Y h => (radd_any _ _ (num_lt _) (Nat.mod_lt _ (by decide)) Y).mono fun e w' hh => ⟨hh.1, h.below hh.2⟩
              · exact fun Y h => (rmul_any _ _ (Nat.mod_lt _ (by decide)) (num_lt _) Y).mono fun e w' hh => ⟨hh.1, h.below hh.2⟩
              · intro Y h
                have := h.flip.storeRow (L' := bts ((num (accN (rOf key) j z5 D) + nb (blkOf X) % P) % P * num (rOf key) % P)) HN9.out (by rw [bts_len, bts_len])
                rw [← num_wth (rOf_lim HK.out.1.len HK.out.1.bd) hlim (blkOf_byt hXb), ← HXB.out.2.2] at this ⊢
                exact this
              intro W6 h6
              have H6 : Hid _ := h6.flip.tail
              clear h6 hb17 hXb hlim E5 hW5 c1 f1
              simp only [Act.put, List.setIfInBounds_toArray, List.set_cons_zero, List.set_cons_succ]
              go_wp2_with fail
              go_roundw
              case rel => exact ⟨j + 1, x + 16, by have := HX.out.1; omega, by have := HX.out.2.1; omega, congrArg (Value.int .i64) (wrap16 (Nat.le_of_lt (Nat.lt_of_lt_of_le HX.out.2.1 HK.out.2.2.2.1))), H6.out⟩
              case measure => exact meas16 HX.out.2.1 HK.out.2.2.2.1
        · have b1 : ¬ (x : Int) < (n : Int) := by omega
          have ej : j = (D.length + 15) / 16 := by rw [HK.out.2.2.1]; omega
          have HE : Hid (Ev q W (.pointer none) [] [(p9, .cells (VI .i64 (bts (num (facc (rOf key) z5 D)))) 91), (p8, .cells (VI .i64 (bts (num (rOf key)))) 91), (q + 1 + 1 + 1, .cells (VI .u8 (sOf key)) 35), (q + 1, .cells (VI .u8 (List.replicate 16 0)) 36)] wr) := by
            have := he
            rw [ej] at this
            exact this
          have HL9 : Hid (wr.rangeAt p9 0 ((bts (num (facc (rOf key) z5 D))).map (Value.int .i64))) := row_range (HE.out.row mem0)
          have HL6 : Hid (wr.rangeAt (q + 1 + 1 + 1) 0 ((sOf key).map (Value.int .u8))) := row_range (HE.out.row mem2)
          have HI9 : Hid ((Try.prog.info? 91).map (·.size) = some (bts (num (facc (rOf key) z5 D))).length) := by
            have : (Try.prog.info? 91).map (·.size) = some (bts (num (facc (rOf key) z5 D))).length := by rw [bts_len]; exact infoNum
            exact this
          have HI6 : Hid ((Try.prog.info? 35).map (·.size) = some (sOf key).length) := by
            have : (Try.prog.info? 35).map (·.size) = some (sOf key).length := by rw [HK.out.1.hi.len]; kernel_rfl
            exact this
          have CS' : Hid (Calls Try.prog 44 #[.agg (VI .i64 (bts (num (facc (rOf key) z5 D)))), .agg (VI .u8 (sOf key))] wr fun e w' => e = .returned (.agg (VI .u8 (mtag key D))) ∧ Below wr.heap.size wr w') := rsum_any _ (sOf key) HK.out.1.hi wr
          clear he ej hx hxn hlt
          go_wp2_with (first | (go_at_call 44; refine Calls.mono CS'.out ?_; rintro e W6 ⟨rfl, hb⟩; have H6 : Hid _ := HE.out.below hb; clear hb) | (with_reducible refine at_list ?_; first | (refine load_midI rfl 91 (.tmp 9) rfl p9 0 rfl .i64 (bts (num (facc (rOf key) z5 D))) _ HL9.out Try.underlying91 rfl HI9.out ?_) | (refine load_midI rfl 35 (.tmp 6) rfl (q + 1 + 1 + 1) 0 rfl .u8 (sOf key) _ HL6.out Try.underlying35 rfl HI6.out ?_) | (refine hold_store 36 (.tmp 4) (.tmp 67) rfl ?_)))
          have h6 := H6.out.sub (by' := [(q + 1, .cells (VI .u8 (List.replicate 16 0)) 36)]) (fun p hp => by rw [List.mem_singleton.1 hp]; exact mem3)
          have ht6 := row_there (h6.row mem0)
          refine store_rowI rfl 36 (.tmp 4) (.tmp 67) rfl (q + 1) .u8 (mtag key D) rfl rfl (by rw [mtag_len]; exact ht6) (by rw [mtag_len]; exact infoT) rfl ?_
          have h7 := h6.storeRow (L' := mtag key D) (fun p hp => nomatch hp) (by rw [mtag_len, List.length_replicate])
          obtain ⟨W7, hW7⟩ : ∃ V, W6.setCells (q + 1) 0 (VI .u8 (mtag key D)).toList = V := ⟨_, rfl⟩
          rw [hW7] at h7 ⊢
          have H7 : Hid (Below q W W7) := h7.old
          have HR7 : Hid (W7.heap[q + 1]? = some (.cells (VI .u8 (mtag key D)) 36)) := h7.row mem0
          have HI7 : Hid ((Try.prog.info? 36).map (·.size) = some (VI .u8 (mtag key D)).size) := by
            have : (Try.prog.info? 36).map (·.size) = some (VI .u8 (mtag key D)).size := by rw [VI_size, mtag_len]; exact infoT
            exact this
          clear h6 h7 ht6 hW7
          go_wp2
          refine bodyPost_ret (v := .agg (VI .u8 (mtag key D))) ?_ rfl ⟨rfl, H7.out⟩
          exact results_cell_row (P := Try.prog) (fn := Try.f14) (p := 4) (ty := 36) rfl _ _ (q + 1) 36 (VI .u8 (mtag key D)) (0, 0) _ rfl HR7.out Try.underlying36 rfl HI7.out
end Go.Proofs.Ytgfamcadgahiiaa
namespace Go.Proofs.Ytgfamcadgahiiaa
set_option linter.unusedSimpArgs false
set_option linter.unusedVariables false
open Go.ChangeShapes Go.WideShapes Go.ChangeAt Go.RowKit Go.Pin Go.Prm
theorem LE.ev {T : TypeId} {sz : Nat} {v : Value} {n : Nat} {xs : List Value} {B : Nat} {w : World} {rv : Value} {l : List (Int × Int)} {bx : List (Nat × Obj)} {W : World} (h : LE T sz v n xs B w rv l bx W) : Ev B w rv l bx W := by
  obtain ⟨lb, _, h, _⟩ := h
  exact h.sub (fun p hp => List.mem_append_right _ hp)
theorem LE.below {T : TypeId} {sz : Nat} {v : Value} {n : Nat} {xs : List Value} {B : Nat} {w : World} {rv : Value} {l : List (Int × Int)} {bx : List (Nat × Obj)} {W W' : World} (h : LE T sz v n xs B w rv l bx W) (hb : Below W.heap.size W W') : LE T sz v n xs B w rv l bx W' := by
  obtain ⟨lb, h1, h2, h3⟩ := h
  exact ⟨lb, h1, h2.below hb, h3⟩
theorem LE.box {T : TypeId} {sz : Nat} {v : Value} {n : Nat} {xs : List Value} {B : Nat} {w : World} {rv : Value} {l : List (Int × Int)} {bx : List (Nat × Obj)} {W : World} (h : LE T sz v n xs B w rv l bx W) (x : Obj) : LE T sz v n xs B w rv l ((W.heap.size, x) :: bx) (W.alloc x) := by
  obtain ⟨lb, h1, h2, h3⟩ := h
  refine ⟨lb, h1, (h2.new x).sub (fun p hp => ?_), fun p hp q hq => ?_⟩
  · simp only [List.mem_append, List.mem_cons] at hp ⊢
    rcases hp with hp | hp | hp
    · exact .inr (.inl hp)
    · exact .inl hp
    · exact .inr (.inr hp)
  · rcases List.mem_cons.1 hq with rfl | hq
    · have := heap_lt (h2.at' p (List.mem_append_left _ hp))
      show W.heap.size ≠ p.1
      omega
    · exact h3 p hp q hq
/-- the document's tag of a list of one's own -/
theorem LE.rtag {v : Value} {A : List Int} {B : Nat} {w : World} {rv : Value} {l : List (Int × Int)} {bx : List (Nat × Obj)} {W : World} (h : LE 5 1 v A.length (A.map (Value.int .u8)) B w rv l bx W) {k : List Int} (hk : Key32 k) (hA : Byt A) (hn : A.length ≤ 1000000) :
    Calls Try.prog 14 #[.agg (VI .u8 k), v] W fun e w2 => e = .returned (.agg (VI .u8 (mtag k A))) ∧ LE 5 1 v A.length (A.map (Value.int .u8)) B w rv l bx w2 := by
  obtain ⟨a, c, rfl⟩ : ∃ a c, v = .slice a A.length c := by
    obtain ⟨lb, h1, _⟩ := h
    exact h1.slice'
  have hr : RdB W (.slice a A.length c) A := by
    obtain ⟨lb, h1, h2, _⟩ := h
    rcases h1.2 with ⟨e1, e2, _⟩ | ⟨g, cap, cur, e1, e2, e3, e4, e5, e6⟩
    · have e : A = [] := List.length_eq_zero_iff.1 e2
      subst e
      exact ⟨none, 0, e1, Nat.le_refl _, .inl rfl⟩
    · refine ⟨_, cap, e1, e3, .inr ⟨g, 0, rfl, fun j u hu => ?_⟩⟩
      have hrow := h2.at' (g, .cells cur 5 (0, 0)) (List.mem_append_left _ (by rw [e2]; exact mem0))
      have hj : j < A.length := by have := (List.getElem?_eq_some_iff.1 hu).1; rw [List.length_map] at this; exact this
      rw [cell_of_row W _ _ _ _ _ hrow, Nat.zero_add, ← hu, ← e6, List.getElem?_take_of_lt (by omega)]
      simp
  exact (rtag_any W k hk A hA a A.length c hr hn).mono (fun e w2 hh => ⟨hh.1, h.below hh.2⟩)
theorem run_allocT {a : Act} {o : Oper} (ho : o.op = .alloc 36) (w : World) : (execOp a.eval o).run Try.prog w = .ok (.value (.pointer (some ⟨w.heap.size, 0, none⟩))) (w.alloc (.cells (VI .u8 z16) 36)) := by
  unfold execOp
  simp only [ho]
  go_simp
  try rfl
noncomputable def rgOf6 : Code := ((Try.f4.body.bind (findReg 6)).getD .skip)
noncomputable def opOf6 : Array Oper := opsOf rgOf6
theorem rgOf6_is : rgOf6 = .region 6 opOf6 true := by kernel_rfl
theorem opOf6_ns : Region.noSelect opOf6 = true := by kernel_rfl
theorem opOf6_0 : opIs opOf6 0 (.load 23 (.tmp 2)) (some 25) := by unfold opIs; kernel_rfl
theorem opOf6_1 : opIs opOf6 1 (.move (.tmp 1)) (some 26) := by unfold opIs; kernel_rfl
theorem opOf6_2 : opIs opOf6 2 (.call { callee := .value (.func 25), args := #[.tmp 26], argTypes := #[48] }) (some 27) := by unfold opIs; kernel_rfl
theorem opOf6_3 : opIs opOf6 3 (.call { callee := .value (.func 14), args := #[.tmp 25, .tmp 27], argTypes := #[23, 30] }) (some 28) := by unfold opIs; kernel_rfl
theorem opOf6_4 : opIs opOf6 4 (.alloc 36) (some 9) := by unfold opIs; kernel_rfl
theorem opOf6_5 : opIs opOf6 5 (.store 36 (.tmp 9) (.tmp 28)) (none) := by unfold opIs; kernel_rfl
set_option maxRecDepth 100000 in
set_option maxHeartbeats 4000000 in
theorem Of6 {Q : Exit → Act → World → Prop} {B : Nat} {w W : World} {rv : Value} {l : List (Int × Int)} {bx : List (Nat × Obj)} {q : Nat} {key : List Int} {a : Option Addr} {n cap : Nat} {Ds : List (List Int)} {a0 : Act} (hk : Key32 key) (hP : PSrc B w bx a n Ds) (hD : BytL Ds) (hn : n ≤ 1000) (hl : Ds.flatten.length ≤ 131072) (h0 : Ev B w rv l bx W) (hq : (q, Obj.cells (VI .u8 key) 23) ∈ bx)
    (sz : a0.tmps.size = 87) (e2 : a0.eval (.tmp 2) = .pointer (some ⟨q, 0, none⟩)) (e1 : a0.eval (.tmp 1) = .slice a n cap)
    (HPN : ∀ c (a : Act) d v w, Q (.panic c) (a.put d v) w → Q (.panic c) a w)
    (H : ∀ v g Y, (∀ p ∈ bx, p.1 ≠ g) → Ev B w rv l ((g, Obj.cells (VI .u8 (mtag key Ds.flatten)) 36) :: bx) Y → Q .normal (((((a0.put (some 25) (.agg (VI .u8 key))).put (some 26) (.slice a n cap)).put (some 27) v).put (some 28) (.agg (VI .u8 (mtag key Ds.flatten)))).put (some 9) (.pointer (some ⟨g, 0, none⟩))) Y) : Code.wp Try.prog rgOf6 Q a0 W := by
  have hS : ∀ k Y, Ev B w rv l k Y → (∀ p ∈ bx, p ∈ k) → (fun Y : World => Y.rangeAt q 0 (key.map (Value.int .u8))) Y := fun k Y h hs => row_range (h.row (hs _ hq))
  have L2a : ∀ v g Y, (∀ p ∈ bx, p.1 ≠ g) → LE 5 1 v Ds.flatten.length (Ds.flatten.map (Value.int .u8)) B w rv l ((g, Obj.cells (VI .u8 z16) 36) :: bx) Y → wpAnyH Try.prog .any opOf6 Q (fun Y : World => Y.rangeAt q 0 (key.map (Value.int .u8))) 1 #[true, true, true, true, true, false] (((((a0.put (some 25) (.agg (VI .u8 key))).put (some 26) (.slice a n cap)).put (some 27) v).put (some 28) (.agg (VI .u8 (mtag key Ds.flatten)))).put (some 9) (.pointer (some ⟨g, 0, none⟩))) Y := fun v g Y hf h => by
    have q1 : (((((a0.put (some 25) (.agg (VI .u8 key))).put (some 26) (.slice a n cap)).put (some 27) v).put (some 28) (.agg (VI .u8 (mtag key Ds.flatten)))).put (some 9) (.pointer (some ⟨g, 0, none⟩))).eval (.tmp 9) = (.pointer (some ⟨g, 0, none⟩)) := eval_put_eq _ _ _ (by simp only [size_put, sz]; decide)
    have q2 : (((((a0.put (some 25) (.agg (VI .u8 key))).put (some 26) (.slice a n cap)).put (some 27) v).put (some 28) (.agg (VI .u8 (mtag key Ds.flatten)))).put (some 9) (.pointer (some ⟨g, 0, none⟩))).eval (.tmp 28) = .agg (VI .u8 (mtag key Ds.flatten)) := by rw [eval_put_ne _ _ _ _ (by decide)]; exact eval_put_eq _ _ _ (by simp only [size_put, sz]; decide)
    have hev := h.ev
    have hst := hev.storeRow (L' := mtag key Ds.flatten) hf (by rw [mtag_len]; rfl)
    refine readyH opOf6_5 (by kernel_rfl) (fun o ho hd => ?_)
    refine wp_store_mid (P := Try.prog) 36 (.tmp 9) (.tmp 28) ho g 0 (VI .u8 (mtag key Ds.flatten)) q1 q2 (by rw [VI_size, mtag_len]; exact row_there (hev.row mem0)) (by rw [VI_size, mtag_len]; exact infoT) (VI_one _ _) ?_
    rw [hd, put_none]
    refine ⟨hS _ _ hst (fun p hp => memr1 hp), ?_⟩
    refine wpAnyH_as (l' := #[true, true, true, true, true, true]) (by kernel_rfl) ?_
    exact wpAnyH_done (by kernel_rfl) (H v g _ hf hst) _
  have L2 : ∀ v Y, LE 5 1 v Ds.flatten.length (Ds.flatten.map (Value.int .u8)) B w rv l bx Y → wpAnyH Try.prog .any opOf6 Q (fun Y : World => Y.rangeAt q 0 (key.map (Value.int .u8))) 2 #[true, true, true, true, false, false] ((((a0.put (some 25) (.agg (VI .u8 key))).put (some 26) (.slice a n cap)).put (some 27) v).put (some 28) (.agg (VI .u8 (mtag key Ds.flatten)))) Y := fun v Y h => by
    refine readyH opOf6_4 (by kernel_rfl) (fun o ho hd => wpRun hd (run_allocT ho Y) ⟨hS _ _ (h.box _).ev (fun p hp => memr1 hp), ?_⟩)
    refine wpAnyH_as (l' := #[true, true, true, true, true, false]) (by kernel_rfl) ?_
    exact L2a v _ _ (fun p hp => by have := heap_lt (h.ev.at' p hp); omega) (h.box _)
  have L1a : ∀ v g Y, (∀ p ∈ bx, p.1 ≠ g) → LE 5 1 v Ds.flatten.length (Ds.flatten.map (Value.int .u8)) B w rv l ((g, Obj.cells (VI .u8 z16) 36) :: bx) Y → wpAnyH Try.prog .any opOf6 Q (fun Y : World => Y.rangeAt q 0 (key.map (Value.int .u8))) 2 #[true, true, true, false, true, false] ((((a0.put (some 25) (.agg (VI .u8 key))).put (some 26) (.slice a n cap)).put (some 27) v).put (some 9) (.pointer (some ⟨g, 0, none⟩))) Y := fun v g Y hf h => by
    have q1 : ((((a0.put (some 25) (.agg (VI .u8 key))).put (some 26) (.slice a n cap)).put (some 27) v).put (some 9) (.pointer (some ⟨g, 0, none⟩))).eval (.tmp 25) = .agg (VI .u8 key) := by rw [eval_put_ne _ _ _ _ (by decide)]; rw [eval_put_ne _ _ _ _ (by decide)]; rw [eval_put_ne _ _ _ _ (by decide)]; exact eval_put_eq _ _ _ (by simp only [size_put, sz]; decide)
    have q2 : ((((a0.put (some 25) (.agg (VI .u8 key))).put (some 26) (.slice a n cap)).put (some 27) v).put (some 9) (.pointer (some ⟨g, 0, none⟩))).eval (.tmp 27) = v := by rw [eval_put_ne _ _ _ _ (by decide)]; exact eval_put_eq _ _ _ (by simp only [size_put, sz]; decide)
    refine readyH opOf6_3 (by kernel_rfl) (fun o ho hd => wpCall (v := .agg (VI .u8 (mtag key Ds.flatten))) ho hd (args := #[.agg (VI .u8 key), v]) (by simp only [List.map_toArray, List.map_cons, List.map_nil, q1, q2]) (fun _ => rfl) (h.rtag hk hD.flat (by omega)) (fun w' hw' => ⟨hS _ _ hw'.ev (fun p hp => memr1 hp), ?_⟩))
    refine wpAnyH_as (l' := #[true, true, true, true, true, false]) (by kernel_rfl) ?_
    rw [put_comm _ _ _ (by decide)]
    exact L2a v g w' hf hw'
  have L1 : ∀ v Y, LE 5 1 v Ds.flatten.length (Ds.flatten.map (Value.int .u8)) B w rv l bx Y → wpAnyH Try.prog .any opOf6 Q (fun Y : World => Y.rangeAt q 0 (key.map (Value.int .u8))) 3 #[true, true, true, false, false, false] (((a0.put (some 25) (.agg (VI .u8 key))).put (some 26) (.slice a n cap)).put (some 27) v) Y := fun v Y h => by
    have q1 : (((a0.put (some 25) (.agg (VI .u8 key))).put (some 26) (.slice a n cap)).put (some 27) v).eval (.tmp 25) = .agg (VI .u8 key) := by rw [eval_put_ne _ _ _ _ (by decide)]; rw [eval_put_ne _ _ _ _ (by decide)]; exact eval_put_eq _ _ _ (by simp only [size_put, sz]; decide)
    have q2 : (((a0.put (some 25) (.agg (VI .u8 key))).put (some 26) (.slice a n cap)).put (some 27) v).eval (.tmp 27) = v := eval_put_eq _ _ _ (by simp only [size_put, sz]; decide)
    refine readyH2 opOf6_3 opOf6_4 (by kernel_rfl) (fun o ho hd => wpCall (v := .agg (VI .u8 (mtag key Ds.flatten))) ho hd (args := #[.agg (VI .u8 key), v]) (by simp only [List.map_toArray, List.map_cons, List.map_nil, q1, q2]) (fun _ => rfl) (h.rtag hk hD.flat (by omega)) (fun w' hw' => ⟨hS _ _ hw'.ev (fun p hp => hp), ?_⟩)) (fun o ho hd => wpRun hd (run_allocT ho Y) ⟨hS _ _ (h.box _).ev (fun p hp => memr1 hp), ?_⟩)
    · refine wpAnyH_as (l' := #[true, true, true, true, false, false]) (by kernel_rfl) ?_
      exact L2 v w' hw'
    · refine wpAnyH_as (l' := #[true, true, true, false, true, false]) (by kernel_rfl) ?_
      exact L1a v _ _ (fun p hp => by have := heap_lt (h.ev.at' p hp); omega) (h.box _)
  have L0a : ∀ g Y, (∀ p ∈ bx, p.1 ≠ g) → Ev B w rv l ((g, Obj.cells (VI .u8 z16) 36) :: bx) Y → wpAnyH Try.prog .any opOf6 Q (fun Y : World => Y.rangeAt q 0 (key.map (Value.int .u8))) 3 #[true, true, false, false, true, false] (((a0.put (some 25) (.agg (VI .u8 key))).put (some 26) (.slice a n cap)).put (some 9) (.pointer (some ⟨g, 0, none⟩))) Y := fun g Y hf h => by
    have q1 : (((a0.put (some 25) (.agg (VI .u8 key))).put (some 26) (.slice a n cap)).put (some 9) (.pointer (some ⟨g, 0, none⟩))).eval (.tmp 26) = .slice a n cap := by rw [eval_put_ne _ _ _ _ (by decide)]; exact eval_put_eq _ _ _ (by simp only [size_put, sz]; decide)
    refine readyH opOf6_2 (by kernel_rfl) (fun o ho hd => wpCallX (v := fun v : Value => v) ho hd (args := #[.slice a n cap]) (by simp only [List.map_toArray, List.map_cons, List.map_nil, q1]) (fun _ => rfl) (joined_any h (hP.sub (fun p hp => memr1 hp)) hn hl) (fun v w' hw' => ⟨hS _ _ hw'.ev (fun p hp => memr1 hp), ?_⟩))
    refine wpAnyH_as (l' := #[true, true, true, false, true, false]) (by kernel_rfl) ?_
    rw [put_comm _ _ _ (by decide)]
    exact L1a v g w' hf hw'
  have L0 : ∀ Y, Ev B w rv l bx Y → wpAnyH Try.prog .any opOf6 Q (fun Y : World => Y.rangeAt q 0 (key.map (Value.int .u8))) 4 #[true, true, false, false, false, false] ((a0.put (some 25) (.agg (VI .u8 key))).put (some 26) (.slice a n cap)) Y := fun Y h => by
    have q1 : ((a0.put (some 25) (.agg (VI .u8 key))).put (some 26) (.slice a n cap)).eval (.tmp 26) = .slice a n cap := eval_put_eq _ _ _ (by simp only [size_put, sz]; decide)
    refine readyH2 opOf6_2 opOf6_4 (by kernel_rfl) (fun o ho hd => wpCallX (v := fun v : Value => v) ho hd (args := #[.slice a n cap]) (by simp only [List.map_toArray, List.map_cons, List.map_nil, q1]) (fun _ => rfl) (joined_any h hP hn hl) (fun v w' hw' => ⟨hS _ _ hw'.ev (fun p hp => hp), ?_⟩)) (fun o ho hd => wpRun hd (run_allocT ho Y) ⟨hS _ _ (h.new _) (fun p hp => memr1 hp), ?_⟩)
    · refine wpAnyH_as (l' := #[true, true, true, false, false, false]) (by kernel_rfl) ?_
      exact L1 v w' hw'
    · refine wpAnyH_as (l' := #[true, true, false, false, true, false]) (by kernel_rfl) ?_
      exact L0a _ _ (fun p hp => by have := heap_lt (h.at' p hp); omega) (h.new _)
  rw [rgOf6_is]
  refine wp_region_held_drew (S := (fun Y : World => Y.rangeAt q 0 (key.map (Value.int .u8)))) (by kernel_rfl) (hS _ _ h0.drew (fun p hp => hp)) (fun hH => ?_)
  refine wpAnyH_as (l' := #[false, false, false, false, false, false]) (by kernel_rfl) ?_
  refine takeH (v := .agg (VI .u8 key)) opOf6_0 opOf6_ns (by kernel_rfl) (by kernel_rfl) HPN (fun w hw o ho => run_ldK hk.len ho e2 w hw) hH ?_
  refine wpAnyH_as (l' := #[true, false, false, false, false, false]) (by kernel_rfl) ?_
  refine takeH (v := .slice a n cap) opOf6_1 opOf6_ns (by kernel_rfl) (by kernel_rfl) HPN (fun w hw o ho => run_move ho (by rw [eval_put_ne _ _ _ _ (by decide)]; exact e1) w) hH ?_
  refine wpAnyH_as (l' := #[true, true, false, false, false, false]) (by kernel_rfl) ?_
  exact L0 _ h0.drew
end Go.Proofs.Ytgfamcadgahiiaa
namespace Go.Proofs.Ytgfamcadgahiiaa
set_option linter.unusedSimpArgs false
set_option linter.unusedVariables false
open Go.ChangeShapes Go.WideShapes Go.ChangeAt Go.RowKit Go.Pin Go.Prm
noncomputable def rgOf16 : Code := ((Try.f4.body.bind (findReg 16)).getD .skip)
noncomputable def opOf16 : Array Oper := opsOf rgOf16
theorem rgOf16_is : rgOf16 = .region 16 opOf16 true := by kernel_rfl
theorem opOf16_ns : Region.noSelect opOf16 = true := by kernel_rfl
theorem opOf16_0 : opIs opOf16 0 (.load 23 (.tmp 2)) (some 76) := by unfold opIs; kernel_rfl
theorem opOf16_1 : opIs opOf16 1 (.move (.tmp 6)) (some 77) := by unfold opIs; kernel_rfl
theorem opOf16_2 : opIs opOf16 2 (.call { callee := .value (.func 25), args := #[.tmp 77], argTypes := #[48] }) (some 78) := by unfold opIs; kernel_rfl
theorem opOf16_3 : opIs opOf16 3 (.call { callee := .value (.func 14), args := #[.tmp 76, .tmp 78], argTypes := #[23, 30] }) (some 79) := by unfold opIs; kernel_rfl
theorem opOf16_4 : opIs opOf16 4 (.store 36 (.tmp 9) (.tmp 79)) (none) := by unfold opIs; kernel_rfl
set_option maxRecDepth 100000 in
set_option maxHeartbeats 4000000 in
theorem Of16 {Q : Exit → Act → World → Prop} {B : Nat} {w W : World} {rv : Value} {l : List (Int × Int)} {bx : List (Nat × Obj)} {q g : Nat} {key T0 : List Int} {a : Option Addr} {n cap : Nat} {Ds : List (List Int)} {a0 : Act} (hk : Key32 key) (hT : T0.length = 16) (hf : ∀ p ∈ bx, p.1 ≠ g) (hP : PSrc B w bx a n Ds) (hD : BytL Ds) (hn : n ≤ 1000) (hl : Ds.flatten.length ≤ 131072) (h0 : Ev B w rv l ((g, Obj.cells (VI .u8 T0) 36) :: bx) W) (hq : (q, Obj.cells (VI .u8 key) 23) ∈ bx)
    (sz : a0.tmps.size = 87) (e2 : a0.eval (.tmp 2) = .pointer (some ⟨q, 0, none⟩)) (e6 : a0.eval (.tmp 6) = .slice a n cap) (e9 : a0.eval (.tmp 9) = (.pointer (some ⟨g, 0, none⟩)))
    (HPN : ∀ c (a : Act) d v w, Q (.panic c) (a.put d v) w → Q (.panic c) a w)
    (H : ∀ v Y, Ev B w rv l ((g, Obj.cells (VI .u8 (mtag key Ds.flatten)) 36) :: bx) Y → Q .normal ((((a0.put (some 76) (.agg (VI .u8 key))).put (some 77) (.slice a n cap)).put (some 78) v).put (some 79) (.agg (VI .u8 (mtag key Ds.flatten)))) Y) : Code.wp Try.prog rgOf16 Q a0 W := by
  have hS : ∀ k Y, Ev B w rv l k Y → (∀ p ∈ bx, p ∈ k) → (fun Y : World => Y.rangeAt q 0 (key.map (Value.int .u8))) Y := fun k Y h hs => row_range (h.row (hs _ hq))
  have L2 : ∀ v Y, LE 5 1 v Ds.flatten.length (Ds.flatten.map (Value.int .u8)) B w rv l ((g, Obj.cells (VI .u8 T0) 36) :: bx) Y → wpAnyH Try.prog .any opOf16 Q (fun Y : World => Y.rangeAt q 0 (key.map (Value.int .u8))) 1 #[true, true, true, true, false] ((((a0.put (some 76) (.agg (VI .u8 key))).put (some 77) (.slice a n cap)).put (some 78) v).put (some 79) (.agg (VI .u8 (mtag key Ds.flatten)))) Y := fun v Y h => by
    have q1 : ((((a0.put (some 76) (.agg (VI .u8 key))).put (some 77) (.slice a n cap)).put (some 78) v).put (some 79) (.agg (VI .u8 (mtag key Ds.flatten)))).eval (.tmp 9) = (.pointer (some ⟨g, 0, none⟩)) := by rw [eval_put_ne _ _ _ _ (by decide)]; rw [eval_put_ne _ _ _ _ (by decide)]; rw [eval_put_ne _ _ _ _ (by decide)]; rw [eval_put_ne _ _ _ _ (by decide)]; exact e9
    have q2 : ((((a0.put (some 76) (.agg (VI .u8 key))).put (some 77) (.slice a n cap)).put (some 78) v).put (some 79) (.agg (VI .u8 (mtag key Ds.flatten)))).eval (.tmp 79) = .agg (VI .u8 (mtag key Ds.flatten)) := eval_put_eq _ _ _ (by simp only [size_put, sz]; decide)
    have hev := h.ev
    have hst := hev.storeRow (L' := mtag key Ds.flatten) hf (by rw [mtag_len, hT])
    have ht := row_there (hev.row mem0)
    rw [hT] at ht
    refine readyH opOf16_4 (by kernel_rfl) (fun o ho hd => ?_)
    refine wp_store_mid (P := Try.prog) 36 (.tmp 9) (.tmp 79) ho g 0 (VI .u8 (mtag key Ds.flatten)) q1 q2 (by rw [VI_size, mtag_len]; exact ht) (by rw [VI_size, mtag_len]; exact infoT) (VI_one _ _) ?_
    rw [hd, put_none]
    refine ⟨hS _ _ hst (fun p hp => memr1 hp), ?_⟩
    refine wpAnyH_as (l' := #[true, true, true, true, true]) (by kernel_rfl) ?_
    exact wpAnyH_done (by kernel_rfl) (H v _ hst) _
  have L1 : ∀ v Y, LE 5 1 v Ds.flatten.length (Ds.flatten.map (Value.int .u8)) B w rv l ((g, Obj.cells (VI .u8 T0) 36) :: bx) Y → wpAnyH Try.prog .any opOf16 Q (fun Y : World => Y.rangeAt q 0 (key.map (Value.int .u8))) 2 #[true, true, true, false, false] (((a0.put (some 76) (.agg (VI .u8 key))).put (some 77) (.slice a n cap)).put (some 78) v) Y := fun v Y h => by
    have q1 : (((a0.put (some 76) (.agg (VI .u8 key))).put (some 77) (.slice a n cap)).put (some 78) v).eval (.tmp 76) = .agg (VI .u8 key) := by rw [eval_put_ne _ _ _ _ (by decide)]; rw [eval_put_ne _ _ _ _ (by decide)]; exact eval_put_eq _ _ _ (by simp only [size_put, sz]; decide)
    have q2 : (((a0.put (some 76) (.agg (VI .u8 key))).put (some 77) (.slice a n cap)).put (some 78) v).eval (.tmp 78) = v := eval_put_eq _ _ _ (by simp only [size_put, sz]; decide)
    refine readyH opOf16_3 (by kernel_rfl) (fun o ho hd => wpCall (v := .agg (VI .u8 (mtag key Ds.flatten))) ho hd (args := #[.agg (VI .u8 key), v]) (by simp only [List.map_toArray, List.map_cons, List.map_nil, q1, q2]) (fun _ => rfl) (h.rtag hk hD.flat (by omega)) (fun w' hw' => ⟨hS _ _ hw'.ev (fun p hp => memr1 hp), ?_⟩))
    refine wpAnyH_as (l' := #[true, true, true, true, false]) (by kernel_rfl) ?_
    exact L2 v w' hw'
  have L0 : ∀ Y, Ev B w rv l ((g, Obj.cells (VI .u8 T0) 36) :: bx) Y → wpAnyH Try.prog .any opOf16 Q (fun Y : World => Y.rangeAt q 0 (key.map (Value.int .u8))) 3 #[true, true, false, false, false] ((a0.put (some 76) (.agg (VI .u8 key))).put (some 77) (.slice a n cap)) Y := fun Y h => by
    have q1 : ((a0.put (some 76) (.agg (VI .u8 key))).put (some 77) (.slice a n cap)).eval (.tmp 77) = .slice a n cap := eval_put_eq _ _ _ (by simp only [size_put, sz]; decide)
    refine readyH opOf16_2 (by kernel_rfl) (fun o ho hd => wpCallX (v := fun v : Value => v) ho hd (args := #[.slice a n cap]) (by simp only [List.map_toArray, List.map_cons, List.map_nil, q1]) (fun _ => rfl) (joined_any h (hP.sub (fun p hp => memr1 hp)) hn hl) (fun v w' hw' => ⟨hS _ _ hw'.ev (fun p hp => memr1 hp), ?_⟩))
    refine wpAnyH_as (l' := #[true, true, true, false, false]) (by kernel_rfl) ?_
    exact L1 v w' hw'
  rw [rgOf16_is]
  refine wp_region_held_drew (S := (fun Y : World => Y.rangeAt q 0 (key.map (Value.int .u8)))) (by kernel_rfl) (hS _ _ h0.drew (fun p hp => memr1 hp)) (fun hH => ?_)
  refine wpAnyH_as (l' := #[false, false, false, false, false]) (by kernel_rfl) ?_
  refine takeH (v := .agg (VI .u8 key)) opOf16_0 opOf16_ns (by kernel_rfl) (by kernel_rfl) HPN (fun w hw o ho => run_ldK hk.len ho e2 w hw) hH ?_
  refine wpAnyH_as (l' := #[true, false, false, false, false]) (by kernel_rfl) ?_
  refine takeH (v := .slice a n cap) opOf16_1 opOf16_ns (by kernel_rfl) (by kernel_rfl) HPN (fun w hw o ho => run_move ho (by rw [eval_put_ne _ _ _ _ (by decide)]; exact e6) w) hH ?_
  refine wpAnyH_as (l' := #[true, true, false, false, false]) (by kernel_rfl) ?_
  exact L0 _ h0.drew
end Go.Proofs.Ytgfamcadgahiiaa
namespace Go.Proofs.Ytgfamcadgahiiaa
set_option linter.unusedSimpArgs false
set_option linter.unusedVariables false
open Go.ChangeShapes Go.WideShapes Go.ChangeAt Go.RowKit Go.Pin Go.Prm
/-- a new Recorder beside the boxes -/
theorem Ev.withRec {B : Nat} {w : World} {l : List (Int × Int)} {bx : List (Nat × Obj)} {wr : World} (h : Ev B w (.pointer none) l bx wr) : Ev B w (.pointer (some ⟨wr.heap.size, 0, none⟩)) [] bx (wr.alloc (.cells #[.slice none 0 0, .int .i64 0] 78)) := by
  have hb : Below wr.heap.size wr (wr.alloc (.cells #[.slice none 0 0, .int .i64 0] 78)) := (Below.refl _ _).alloc (Nat.le_refl _) _
  have h' := h.below hb
  refine ⟨h'.old, h'.le, h'.ge, h'.at', .inr ⟨_, _, rfl, (rec_new wr).mono h.le, fun p hp hk => ?_⟩⟩
  have := heap_lt (h.at' p hp)
  rcases hk with hk | hk
  · omega
  · cases hk
theorem TL.withRec {B : Nat} {w : World} {l : List (Int × Int)} {bx : List (Nat × Obj)} {xs ys : List Value} {v u : Value} {W : World} (h : TL B w (.pointer none) l bx xs ys v u W) : TL B w (.pointer (some ⟨W.heap.size, 0, none⟩)) [] bx xs ys v u (W.alloc (.cells #[.slice none 0 0, .int .i64 0] 78)) := by
  obtain ⟨l1, l2, h1, h2, h3, h4⟩ := h
  exact ⟨l1, l2, h1, h2, h3.withRec, h4⟩
/-- a cell of a list of slices -/
theorem Lst.at {xs : List Value} {v : Value} {lb : List (Nat × Obj)} (h : Lst 30 1 v xs.length xs lb) {i : Nat} (hi : i < xs.length) : ∃ g c, v = .slice (some ⟨g, 0, none⟩) xs.length c ∧ ∀ Y : World, (∀ p ∈ lb, Y.heap[p.1]? = some p.2) → Y.cell? ⟨g, 0 + i, none⟩ = xs[i]? := by
  rcases h.2 with ⟨_, e, _⟩ | ⟨g, cap, cur, e1, e2, e3, e4, e5, e6⟩
  · omega
  · refine ⟨g, cap, e1, fun Y hY => ?_⟩
    have hrow := hY (g, .cells cur 30 (0, 0)) (by rw [e2]; exact mem0)
    rw [cell_of_row Y _ _ _ _ _ hrow, Nat.zero_add]
    have : xs[i]? = cur[i]? := by
      rw [← e6, List.getElem?_take_of_lt (by omega)]
      simp
    rw [this]
/-- the pieces within their roomy lists -/
theorem psrc_prt {B : Nat} {w : World} {K : List (Nat × List Int)} {u : Value} {l2 : List (Nat × Obj)} (h : Lst 30 1 u (K.map prt).length (K.map prt) l2) (hm : K.length ≤ maxLen) {bx : List (Nat × Obj)} (h2 : ∀ p ∈ l2, p ∈ bx) (hr : ∀ p ∈ rbx K, p ∈ bx) : ∃ au cu, u = .slice au K.length cu ∧ PSrc B w bx au K.length (K.map Prod.snd) := by
  have hl : (K.map prt).length = K.length := List.length_map ..
  obtain ⟨au, cu, hu⟩ := h.slice'
  rw [hl] at hu
  refine ⟨au, cu, hu, ⟨List.length_map .., hm⟩, fun j hj => ?_⟩
  obtain ⟨g, c, e, hat⟩ := h.at (i := j) (by rw [hl]; exact hj)
  rw [hu] at e
  injection e with e1 _ _
  have hp : (K.map prt)[j]? = some (prt K[j]) := by rw [List.getElem?_map, List.getElem?_eq_getElem hj]; rfl
  have hD : (K.map Prod.snd).getD j [] = (K[j]).2 := by rw [List.getD_eq_getElem?_getD, List.getElem?_map, List.getElem?_eq_getElem hj]; rfl
  refine ⟨g, 0, prt K[j], e1, fun Y _ hq => by rw [hat Y (fun p hp => hq p (h2 p hp)), hp], ?_⟩
  rw [hD]
  have hmem : ((K[j]).1, Obj.cells (VI .u8 (room (K[j]).2)) 5) ∈ bx := hr _ (List.mem_map.2 ⟨K[j], List.getElem_mem hj, rfl⟩)
  have := src_box (B := B) (w := w) hmem 0 (K[j]).2.length ((K[j]).2.length + 70) (by rw [room_len]; omega) (by omega)
  rw [List.drop_zero, room_take] at this
  exact this
/-- what untouched wants -/
theorem ut_of {B : Nat} {w : World} {rv : Value} {l : List (Int × Int)} {bx : List (Nat × Obj)} {K : List (Nat × List Int)} {v u : Value} {W : World} (h : TL B w rv l bx (K.map whl) (K.map prt) v u W) (hr : ∀ p ∈ rbx K, p ∈ bx) {a : Option Addr} {n : Nat} {b0 : List (Nat × Obj)} (hb0 : ∀ p ∈ b0, p ∈ bx) (hP : PSrc B w b0 a n (K.map Prod.snd)) (hl : ∀ p ∈ K, p.2.length ≤ 131072) :
    ∃ a1 c1 a2 c2, v = .slice a1 n c1 ∧ u = .slice a2 n c2 ∧ ∀ i, i < n → UT W a1 a2 a i := by
  obtain ⟨l1, l2, h1, h2, h3, _⟩ := h
  have hn : K.length = n := by have := hP.1.1; rw [List.length_map] at this; exact this
  obtain ⟨a1, c1, e1⟩ := h1.slice'
  obtain ⟨a2, c2, e2⟩ := h2.slice'
  rw [List.length_map, hn] at e1 e2
  refine ⟨a1, c1, a2, c2, e1, e2, fun i hi => ?_⟩
  have hiK : i < K.length := by omega
  obtain ⟨g1, d1, k1, hat1⟩ := h1.at (i := i) (by rw [List.length_map]; exact hiK)
  obtain ⟨g2, d2, k2, hat2⟩ := h2.at (i := i) (by rw [List.length_map]; exact hiK)
  rw [e1] at k1
  rw [e2] at k2
  injection k1 with k1 _ _
  injection k2 with k2 _ _
  obtain ⟨b3, o3, y, k3, hc3, hs3⟩ := hP.2 i hi
  have hD : (K.map Prod.snd).getD i [] = (K[i]).2 := by rw [List.getD_eq_getElem?_getD, List.getElem?_map, List.getElem?_eq_getElem hiK]; rfl
  rw [hD] at hs3
  obtain ⟨au, cu, rfl, hle, hrr⟩ := hs3
  have hbx : ∀ q ∈ b0, W.heap[q.1]? = some q.2 := fun q hq => h3.at' q (List.mem_append_right _ (List.mem_append_right _ (hb0 q hq)))
  have hrow : W.heap[(K[i]).1]? = some (.cells (VI .u8 (room (K[i]).2)) 5) := h3.at' ((K[i]).1, Obj.cells (VI .u8 (room (K[i]).2)) 5) (List.mem_append_right _ (List.mem_append_right _ (hr _ (List.mem_map.2 ⟨K[i], List.getElem_mem hiK, rfl⟩))))
  refine ⟨(K[i]).2, (K[i]).2.length, g1, 0, some ⟨(K[i]).1, 0, none⟩, (K[i]).2.length + 70, g2, 0, some ⟨(K[i]).1, 0, none⟩, (K[i]).2.length + 70, b3, o3, au, cu, k1, ?_, ?_, k2, ?_, k3, hc3 W h3.old hbx, ?_, hl _ (List.getElem_mem hiK)⟩
  · rw [hat1 W (fun p hp => h3.at' p (List.mem_append_left _ hp)), List.getElem?_map, List.getElem?_eq_getElem hiK]
    rfl
  · exact ⟨_, _, by rw [room_len], by rw [room_len]; exact Nat.le_refl _, .inr ⟨_, 0, rfl, row_range hrow⟩⟩
  · rw [hat2 W (fun p hp => h3.at' p (List.mem_append_right _ (List.mem_append_left _ hp))), List.getElem?_map, List.getElem?_eq_getElem hiK]
    rfl
  · refine ⟨au, cu, rfl, hle, ?_⟩
    rcases hrr with e | ⟨b', o', r1, r2⟩
    · exact .inl e
    · exact .inr ⟨b', o', r1, r2 W h3.old hbx⟩
end Go.Proofs.Ytgfamcadgahiiaa
