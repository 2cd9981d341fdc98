import Derived.Test.YtfkbgodfcnmepabDoorDgR
namespace Go.Proofs.YtfkbgodfcnmepabDoor
set_option linter.unusedSimpArgs false
set_option linter.unusedVariables false
open Go.ChangeShapes Go.WideShapes Go.ChangeAt Go.RowKit Go.Pin Go.Str Go.Dig
def z64 : List Int := List.replicate 64 0
theorem hst_new (rv : Value) (s : Nat) : HSt rv s (h0 s 0) [] (hsO rv s (h0 s 0) 0 z64 0) := ⟨z64, rfl, (fun x hx => by rw [(List.mem_replicate.1 hx).2]; decide), rfl, rfl⟩
theorem wr32 {x : Int} (h0 : 0 ≤ x) (h1 : x < 4294967296) : IntKind.u32.wrap x = x := by
  obtain ⟨n, rfl⟩ := Int.eq_ofNat_of_zero_le h0
  have := wrap32 n 0
  rw [show ((n : Int) + ((0 : Nat) : Int)) = (n : Int) by omega] at this
  rw [this]
  unfold ad
  omega
noncomputable def zcH : Array Value := match hsO (.pointer none) 0 (List.replicate 8 0) 0 z64 0 with | .cells cs _ _ => cs | _ => #[]
theorem zcH_info : (Tryd.prog.info? 51).bind (·.zero) = some (.agg zcH) := by kernel_rfl
theorem zvH (w : World) : (zeroValue 51).run Tryd.prog w = .ok (.agg zcH) w := by
  obtain ⟨i, h1, h2⟩ := Option.bind_eq_some_iff.1 zcH_info
  simp [zeroValue, typeInfo, h1, h2]
theorem zcH_size : zcH.size = 76 := by kernel_rfl
theorem zcH_ne : ¬ zcH = #[] := fun h => by have := zcH_size; rw [h] at this; cases this
set_option maxRecDepth 100000 in
theorem hs_new (ra : Option Addr) (s k : Nat) {x z : Int} (hx : x = ((1779033703 ^^^ (16842752 + 256 * k + s) : Nat) : Int)) (hz : (s : Int) = z) :
    Obj.cells (((((((((((zcH.setIfInBounds 0 (Value.pointer ra)).setIfInBounds 1 (Value.int IntKind.i64 z)).setIfInBounds 2 (Value.int IntKind.u32 1779033703)).setIfInBounds 3 (Value.int IntKind.u32 3144134277)).setIfInBounds 4 (Value.int IntKind.u32 1013904242)).setIfInBounds 5 (Value.int IntKind.u32 2773480762)).setIfInBounds 6 (Value.int IntKind.u32 1359893119)).setIfInBounds 7 (Value.int IntKind.u32 2600822924)).setIfInBounds 8 (Value.int IntKind.u32 528734635)).setIfInBounds 9 (Value.int IntKind.u32 1541459225)).setIfInBounds 2 (Value.int IntKind.u32 x)) 51 = hsO (.pointer ra) s (h0 s k) 0 z64 0 := by
  subst hx hz
  kernel_rfl
theorem hst_key (rv : Value) (s : Nat) (D : List Int) (hD : 0 < D.length) (h32 : D.length ≤ 32) (hb : Byb D) : HSt rv s (h0 s D.length) (fil D) (hsO rv s (h0 s D.length) 0 (putb z64 0 D) 64) := by
  have e1 : fil D = putb z64 0 D := by
    rw [putb_zero D z64 (by simp [z64]; omega), fil, if_neg (by omega)]
    rw [z64, List.drop_replicate]
  have e2 : (fil D).length = 64 := by rw [fil_len D h32, if_neg (by omega)]
  have e3 : nbl (fil D).length = 0 := by rw [e2]; rfl
  have e4 : hld (fil D) = fil D := by unfold hld; rw [e3]; rfl
  refine ⟨fil D, e2, ?_, ?_, ?_⟩
  · intro x hx
    unfold fil at hx
    rw [if_neg (by omega)] at hx
    rcases List.mem_append.1 hx with hx | hx
    · exact hb x hx
    · rw [(List.mem_replicate.1 hx).2]; decide
  · rw [e4, List.take_length]
  · rw [e3, e4, e2, ← e1]; rfl
def nlg (D : List Int) : List (Int × Int) := [(1, 0), (1, 0), (1, 0), (1, if D.length = 0 then 0 else 1)]
/-- what New leaves -/
def NewOk (B : Nat) (w : World) (rv : Value) (l : List (Int × Int)) (bx : List (Nat × Obj)) (s : Nat) (D : List Int) (g : Nat) (w' : World) : Prop :=
  ∃ o, (∀ p ∈ bx, p.1 ≠ g) ∧ HSt rv s (h0 s D.length) (fil D) o ∧ Ev B w rv (l ++ nlg D) ((g, o) :: bx) w'
set_option maxRecDepth 100000 in
set_option maxHeartbeats 8000000 in
theorem dnew_any {B : Nat} {w : World} {ra : Option Addr} {l : List (Int × Int)} {bx : List (Nat × Obj)} {W : World} (h : Ev B w (.pointer ra) l bx W) (hl : Value.pointer ra ≠ Value.pointer none → l.length ≤ 900000) (s : Nat) (hs : 1 ≤ s ∧ s ≤ 32) (hB : Beg w) (h2 : 2 ≤ B) (kv : Value) (D : List Int) (hk : Src B w bx kv D) (h32 : D.length ≤ 32) (hD : Byb D) :
    Calls Tryd.prog 5 #[(.pointer ra), .int .i64 (s : Int), kv] W fun e w' => ∃ g, e = .returned (.tuple #[.pointer (some ⟨g, 0, none⟩), .nilIface]) ∧ NewOk B w (.pointer ra) l bx s D g w' := by
  obtain ⟨ka, cap, rfl, hcap, hsrc⟩ := hk
  have HL : Hid ((Value.pointer ra ≠ Value.pointer none → l.length ≤ 900000) ∧ 2 ≤ B ∧ Beg w ∧ 1 ≤ s ∧ s ≤ 32) := ⟨hl, h2, hB, hs⟩
  have C1 : Hid (Calls Tryd.prog 16 #[(.pointer ra), .bool false] W fun e w' => e = .returned (.bool false) ∧ Ev B w (.pointer ra) (l ++ [(1, 0)]) bx w') := v_if h (fun hr => by have := HL.out.1 hr; omega) false
  have HW : Hid (Ev B w (.pointer ra) l bx W) := h
  have HK : Hid (D.length ≤ cap ∧ (D = [] ∨ ∃ b o, ka = some ⟨b, o, none⟩ ∧ ∀ W, Below B w W → (∀ q ∈ bx, W.heap[q.1]? = some q.2) → W.rangeAt b o (D.map (Value.int .u8))) ∧ D.length ≤ 32 ∧ Byb D) := ⟨hcap, hsrc, h32, hD⟩
  obtain ⟨k, hkn⟩ : ∃ k, D.length = k := ⟨_, rfl⟩
  rw [hkn] at h32 ⊢
  have HKN : Hid (D.length = k) := hkn
  clear hkn hcap hsrc hD
  obtain ⟨z, hz⟩ : ∃ z : Int, (s : Int) = z := ⟨_, rfl⟩
  rw [hz]
  have HZ : Hid ((s : Int) = z) := hz
  have b1 : decide (z < (1 : Int)) = false := decide_eq_false (by omega)
  have b2 : decide ((32 : Int) < z) = false := decide_eq_false (by omega)
  have b3 : decide ((32 : Int) < (k : Int)) = false := decide_eq_false (by omega)
  have w1 : IntKind.u32.wrap z = z := wr32 (by omega) (by omega)
  have w2 : IntKind.u32.wrap (k : Int) = k := wr32 (by omega) (by omega)
  have w3 : IntKind.u32.wrap (256 * (k : Int)) = 256 * (k : Int) := wr32 (by omega) (by omega)
  have w4 : IntKind.u32.wrap (16842752 + 256 * (k : Int)) = 16842752 + 256 * (k : Int) := wr32 (by omega) (by omega)
  have w5 : IntKind.u32.wrap (16842752 + 256 * (k : Int) + z) = 16842752 + 256 * (k : Int) + z := wr32 (by omega) (by omega)
  have w6 : bits BinOp.xor IntKind.u32 1779033703 (16842752 + 256 * (k : Int) + z) = ((1779033703 ^^^ (16842752 + 256 * k + s) : Nat) : Int) := by
    rw [← u32_xor_nat 1779033703 (16842752 + 256 * k + s) (by decide) (by omega), ← hz]
    congr 1
  have W6 : Hid _ := w6
  clear hz hs w6
  clear h hl h2 hB h32
  go_enter Tryd.func5, Tryd.ntmps5
  go_upto_region 3 with (go_at_call 16; refine Calls.mono C1.out ?_; rintro e W1 ⟨rfl, h1⟩; have H1 : Hid _ := h1; clear h1 C1)
  have C2 : Hid (Calls Tryd.prog 16 #[(.pointer ra), .bool false] W1 fun e w' => e = .returned (.bool false) ∧ Ev B w (.pointer ra) (l ++ [(1, 0)] ++ [(1, 0)]) bx w') := v_if H1.out (fun hr => by have := HL.out.1 hr; simp only [List.length_append, List.length_cons, List.length_nil]; omega) false
  go_upto_region 5 with (go_at_call 16; refine Calls.mono C2.out ?_; rintro e W2 ⟨rfl, h2⟩; have H2 : Hid _ := h2; clear h2 C2)
  have C3 : Hid (Calls Tryd.prog 16 #[(.pointer ra), .bool false] W2 fun e w' => e = .returned (.bool false) ∧ Ev B w (.pointer ra) (l ++ [(1, 0)] ++ [(1, 0)] ++ [(1, 0)]) bx w') := v_if H2.out (fun hr => by have := HL.out.1 hr; simp only [List.length_append, List.length_cons, List.length_nil]; omega) false
  go_upto_region 7 with (go_at_call 16; refine Calls.mono C3.out ?_; rintro e W3 ⟨rfl, h3⟩; have H3 : Hid _ := h3; clear h3 C3)
  have HG := (HL.out.2.2.1.below H3.out.old HL.out.2.1).1
  have g0 : W3.cell? ⟨1, 0, none⟩ = some (.int .u32 1779033703) := HG 0 _ rfl
  have g1 : W3.cell? ⟨1, 1, none⟩ = some (.int .u32 3144134277) := HG 1 _ rfl
  have g2 : W3.cell? ⟨1, 2, none⟩ = some (.int .u32 1013904242) := HG 2 _ rfl
  have g3 : W3.cell? ⟨1, 3, none⟩ = some (.int .u32 2773480762) := HG 3 _ rfl
  have g4 : W3.cell? ⟨1, 4, none⟩ = some (.int .u32 1359893119) := HG 4 _ rfl
  have g5 : W3.cell? ⟨1, 5, none⟩ = some (.int .u32 2600822924) := HG 5 _ rfl
  have g6 : W3.cell? ⟨1, 6, none⟩ = some (.int .u32 528734635) := HG 6 _ rfl
  have g7 : W3.cell? ⟨1, 7, none⟩ = some (.int .u32 1541459225) := HG 7 _ rfl
  clear HG
  have hzv := fun w => zvH w
  have hzs := zcH_size
  have hzn := zcH_ne
  go_upto_region 8 with fail
  clear hzv hzn
  clear g0 g1 g2 g3 g4 g5 g6 g7
  go_region
  rw [hs_new ra s k W6.out HZ.out]
  obtain ⟨g, hg⟩ : ∃ g, W3.heap.size = g := ⟨_, rfl⟩
  have H4 : Hid (Ev B w (.pointer ra) (l ++ [(1, 0)] ++ [(1, 0)] ++ [(1, 0)]) ((g, hsO (.pointer ra) s (h0 s k) 0 z64 0) :: bx) (W3.alloc (hsO (.pointer ra) s (h0 s k) 0 z64 0)).drew) := by
    have := (H3.out.new (hsO (.pointer ra) s (h0 s k) 0 z64 0)).drew
    rw [hg] at this
    exact this
  have HN : Hid (∀ p ∈ bx, p.1 ≠ g) := fun p hp e => by have := heap_lt (H3.out.at' p hp); omega
  rw [hg]
  obtain ⟨W4, hW4⟩ : ∃ W4, (W3.alloc (hsO (.pointer ra) s (h0 s k) 0 z64 0)).drew = W4 := ⟨_, rfl⟩
  rw [hW4] at H4 ⊢
  clear hW4 hg H3
  rcases Nat.eq_zero_or_pos k with hk0 | hk0
  · have b4 : decide ((0 : Int) < (k : Int)) = false := decide_eq_false (by omega)
    have b5 : decide (0 < k) = false := decide_eq_false (by omega)
    have HK0 : Hid (k = 0) := hk0
    clear hk0
    have C5 : Hid (Calls Tryd.prog 16 #[(.pointer ra), .bool false] W4 fun e w' => e = .returned (.bool false) ∧ Ev B w (.pointer ra) (l ++ [(1, 0)] ++ [(1, 0)] ++ [(1, 0)] ++ [(1, 0)]) ((g, hsO (.pointer ra) s (h0 s k) 0 z64 0) :: bx) w') := v_if H4.out (fun hr => by have := HL.out.1 hr; simp only [List.length_append, List.length_cons, List.length_nil]; omega) false
    go_wp2_with (go_at_call 16; refine Calls.mono C5.out ?_; rintro e W5 ⟨rfl, h5⟩; have H5 : Hid _ := h5; clear h5 C5)
    go_ret2
    have e0 : D = [] := List.length_eq_zero_iff.1 (by rw [HKN.out]; exact HK0.out)
    refine ⟨g, rfl, _, HN.out, ?_, H5.out.cast ?_⟩
    · rw [HK0.out, e0]; exact hst_new _ _
    · rw [e0]; simp [nlg]
  · have b4 : decide ((0 : Int) < (k : Int)) = true := decide_eq_true (by omega)
    have b5 : decide (0 < k) = true := decide_eq_true (by omega)
    have HK0 : Hid (0 < k) := hk0
    clear hk0
    have C5 : Hid (Calls Tryd.prog 16 #[(.pointer ra), .bool true] W4 fun e w' => e = .returned (.bool true) ∧ Ev B w (.pointer ra) (l ++ [(1, 0)] ++ [(1, 0)] ++ [(1, 0)] ++ [(1, 1)]) ((g, hsO (.pointer ra) s (h0 s k) 0 z64 0) :: bx) w') := v_if H4.out (fun hr => by have := HL.out.1 hr; simp only [List.length_append, List.length_cons, List.length_nil]; omega) true
    go_upto_region 10 with (go_at_call 16; refine Calls.mono C5.out ?_; rintro e W5 ⟨rfl, h5⟩; have H5 : Hid _ := h5; clear h5 C5)
    obtain ⟨b, oo, hka, hrd⟩ : ∃ b o, ka = some ⟨b, o, none⟩ ∧ W5.rangeAt b o (D.map (Value.int .u8)) := by
      rcases HK.out.2.1 with e | ⟨b, o, e, hr⟩
      · exact absurd HKN.out (by rw [e]; have := HK0.out; simp only [List.length_nil]; omega)
      · exact ⟨b, o, e, hr W5 H5.out.old (fun p hp => H5.out.at' p (List.mem_cons_of_mem _ hp))⟩
    subst hka
    have h5g := H5.out.row mem0
    have hth : W5.there g 11 D.length := fun j hj => ⟨by rw [hs_blk rfl rfl h5g (show j < 64 by have := HK.out.2.2.1; omega)]; rfl, hs_froz h5g _⟩
    have HCP : Hid (∀ ty, (Builtin.copy_ #[22, 22] ty #[.slice (some ⟨g, 11, none⟩) 64 64, .slice (some ⟨b, oo, none⟩) k cap]).run Tryd.prog W5 = .ok (.int .i64 (D.length : Int)) (W5.setCells g 11 (D.map (Value.int .u8)))) := fun ty =>
      run_copyX (W := W5) (gd := g) (od := 11) (dl := 64) (dc := 64) (sl := k) (sc := cap) (X := D) ty (by rw [HKN.out]; have := HK.out.2.2.1; rw [HKN.out] at this; exact (Nat.min_eq_left (by omega)).symm) hrd hth
    have h6 := hs_puts (o := 0) rfl D rfl (by have := HK.out.2.2.1; omega) h5g
    have H6 : Hid (Ev B w (.pointer ra) (l ++ [(1, 0)] ++ [(1, 0)] ++ [(1, 0)] ++ [(1, 1)]) ((g, hsO (.pointer ra) s (h0 s k) 0 (putb z64 0 D) 0) :: bx) (W5.setCells g 11 (D.map (Value.int .u8)))) := H5.out.set rfl HN.out (grow_setCells g _ _ W5) h6
    clear h6 hth hrd h5g
    go_upto_region 11 with (with_reducible refine at_list ?_; first | (refine wpList_copy_run W5 rfl (.tmp 55) (.tmp 56) 22 22 rfl (.slice (some ⟨g, 11, none⟩) 64 64) (.slice (some ⟨b, oo, none⟩) k cap) rfl rfl (HCP.out _) ?_))
    obtain ⟨W6, hW6⟩ : ∃ W6, W5.setCells g 11 (D.map (Value.int .u8)) = W6 := ⟨_, rfl⟩
    rw [hW6] at H6 ⊢
    clear hW6
    have c0 := hs_held rfl (putb_len D z64 0) (H6.out.row mem0)
    have f0 := hs_froz (H6.out.row mem0) 75
    go_wp2
    go_ret2
    refine ⟨g, rfl, hsO (.pointer ra) s (h0 s k) 0 (putb z64 0 D) 64, HN.out, ?_, Ev.cast (l := l ++ [(1, 0)] ++ [(1, 0)] ++ [(1, 0)] ++ [(1, 1)]) ?_ ?_⟩
    rotate_left
    · exact H6.out.set rfl HN.out ((Grow.refl _ _).but ((But.refl (fun k => k = g) _).setCell (p := ⟨g, 75, none⟩) rfl _) (fun k hk => .inl hk)) (hs_setHeld rfl (putb_len D z64 0) (H6.out.row mem0) 64)
    · rw [nlg, if_neg (by rw [HKN.out]; exact Nat.pos_iff_ne_zero.1 HK0.out)]; simp
    · have := hst_key (.pointer ra) s D (by rw [HKN.out]; exact HK0.out) HK.out.2.2.1 HK.out.2.2.2
      rw [HKN.out] at this ⊢
      exact this
end Go.Proofs.YtfkbgodfcnmepabDoor
