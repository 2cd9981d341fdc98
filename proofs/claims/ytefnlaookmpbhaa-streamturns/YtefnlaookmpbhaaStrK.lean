import Derived.Test.YtefnlaookmpbhaaStrJ
import Derived.Test.YtefnlaookmpbhaaStrI
namespace Go.Proofs.Ytefnlaookmpbhaa
set_option linter.unusedSimpArgs false
set_option linter.unusedVariables false
open Go.ChangeShapes Go.WideShapes Go.ChangeAt Go.RowKit Go.Pin Go.Str
theorem wv_zip (f g : Nat → List Nat) (hf : ∀ l, l < 4 → (f l).length = 16) (hg : ∀ l, l < 4 → (g l).length = 16) : List.zipWith ad (wv f) (wv g) = wv fun l => List.zipWith ad (f l) (g l) := by
  apply list_ext (by simp [wv_len])
  intro p hp
  simp only [List.length_zipWith, wv_len, Nat.min_self] at hp
  have h1 := hf (p % 4) (by omega)
  have h2 := hg (p % 4) (by omega)
  rw [wv_at _ _ hp]
  simp only [List.getD, List.getElem?_zipWith]
  have e1 := wv_at f p hp
  have e2 := wv_at g p hp
  simp only [List.getD] at e1 e2
  rw [List.getElem?_eq_getElem (show p < (wv f).length by rw [wv_len]; exact hp)] at e1 ⊢
  rw [List.getElem?_eq_getElem (show p < (wv g).length by rw [wv_len]; exact hp)] at e2 ⊢
  rw [List.getElem?_eq_getElem (show p / 4 < (f (p % 4)).length by omega)] at e1 ⊢
  rw [List.getElem?_eq_getElem (show p / 4 < (g (p % 4)).length by omega)] at e2 ⊢
  simp only [Option.getD_some] at e1 e2 ⊢
  rw [e1, e2]
/-- four's boxes: the state, the answer; the first words, what is turned -/
structure GW (n m : Nat) (w : World) (F L : List Nat) (wr : World) : Prop where
  old : Below n w wr
  hm : n + 2 ≤ m
  sz : m + 2 ≤ wr.heap.size
  hr : RW wr (n + 1) (List.replicate 64 0) 88
  hf : RW wr m F 88
  hs : RW wr (m + 1) L 88
theorem GW.set {n m : Nat} {w wr : World} {F L : List Nat} (h : GW n m w F L wr) (i v : Nat) : GW n m w F (L.set i v) (wr.setCell ⟨m + 1, i, none⟩ (.int .u32 (v : Int))) :=
  ⟨h.old.setCell (by have := h.hm; show n ≤ m + 1; omega) _, h.hm, by simpa using h.sz, h.hr.other (by have := h.hm; omega) _ _, h.hf.other (by omega) _ _, h.hs.set _ _⟩
theorem GW.drew {n m : Nat} {w wr : World} {F L : List Nat} (h : GW n m w F L wr) : GW n m w F L wr.drew := ⟨h.old.drew, h.hm, h.sz, h.hr, h.hf, h.hs⟩
theorem GW.below {n m : Nat} {w wr w' : World} {F L : List Nat} (h : GW n m w F L wr) (hb : Below wr.heap.size wr w') : GW n m w F L w' := by
  have hm := h.hm
  have sz := h.sz
  exact ⟨h.old.trans (hb.mono (by omega)), hm, Nat.le_trans sz hb.size, (hb.block _ (by omega)).trans h.hr, (hb.block _ (by omega)).trans h.hf, (hb.block _ (by omega)).trans h.hs⟩
theorem GW.but {n m : Nat} {w wr w' : World} {F L M : List Nat} (h : GW n m w F L wr) (hb : But (fun k => k = m + 1) wr w') (hM : RW w' (m + 1) M 88) : GW n m w F M w' := by
  have hm := h.hm
  exact ⟨h.old.trans (hb.below (fun k hk => by omega)), hm, by rw [hb.size]; exact h.sz, h.hr.but hb (by omega), h.hf.but hb (by omega), hM⟩
/-- a row of four -/
theorem run_index_four (w : World) (F : List Nat) (i : Nat) (hF : F.length = 64) (hi : i < 16) :
    (Instr.index 88 (.agg (VN .u32 F)) (.int .i64 (i : Int))).run Try.prog w = .ok (.agg #[.int .u32 ((F.getD (4 * i) 0 : Nat) : Int), .int .u32 ((F.getD (4 * i + 1) 0 : Nat) : Int), .int .u32 ((F.getD (4 * i + 2) 0 : Nat) : Int), .int .u32 ((F.getD (4 * i + 3) 0 : Nat) : Int)]) w := by
  have hs : ∀ w, (sizeOf 86).run Try.prog w = .ok 4 w := fun _ => by kernel_rfl
  have h1 : (i : Int) < 16 := by omega
  have key : ∀ j, j < 4 → ((VN IntKind.u32 F).extract (i * 4) (i * 4 + 4))[j]? = some (.int .u32 ((F.getD (4 * i + j) 0 : Nat) : Int)) := fun j hj => by
    rw [Array.getElem?_extract, if_pos (by rw [VN_size]; omega), show i * 4 + j = 4 * i + j by omega, VN_at _ _ _ (by omega)]
  have ext : (VN IntKind.u32 F).extract (i * 4) (i * 4 + 4) = #[.int .u32 ((F.getD (4 * i) 0 : Nat) : Int), .int .u32 ((F.getD (4 * i + 1) 0 : Nat) : Int), .int .u32 ((F.getD (4 * i + 2) 0 : Nat) : Int), .int .u32 ((F.getD (4 * i + 3) 0 : Nat) : Int)] := by
    apply Array.ext_getElem?
    intro j
    rcases (by omega : j = 0 ∨ j = 1 ∨ j = 2 ∨ j = 3 ∨ 4 ≤ j) with rfl | rfl | rfl | rfl | hj
    · exact key 0 (by decide)
    · exact key 1 (by decide)
    · exact key 2 (by decide)
    · exact key 3 (by decide)
    · rw [Array.getElem?_eq_none (by rw [Array.size_extract, VN_size]; omega), Array.getElem?_eq_none (by simpa using hj)]
  simp only [Instr.index, run_underlying Try.underlying88, asIntOf, hi, h1, go_sem, hs, part, isAgg, run_underlying Try.underlying86]
  simp [ext, h1]
  intro h; omega
set_option maxRecDepth 100000 in
set_option maxHeartbeats 4000000 in
theorem four_any (s : List Nat) (hs : St s) (w : World) :
    Calls Try.prog 44 #[.agg (VN .u32 s)] w fun e w' => e = .returned (.agg (VN .u32 (wv fun l => blk (ctr s l)))) ∧ Below w.heap.size w w' := by
  obtain ⟨n, hn⟩ : ∃ n, w.heap.size = n := ⟨_, rfl⟩
  obtain ⟨W0, hW0⟩ : ∃ W, (w.alloc (.cells (VN .u32 s) 68)).alloc (.cells (VN .u32 (List.replicate 64 0)) 88) = W := ⟨_, rfl⟩
  have hW0' : (w.alloc (.cells (VN .u32 s) 68)).alloc (.cells #[.int .u32 0, .int .u32 0, .int .u32 0, .int .u32 0, .int .u32 0, .int .u32 0, .int .u32 0, .int .u32 0, .int .u32 0, .int .u32 0, .int .u32 0, .int .u32 0, .int .u32 0, .int .u32 0, .int .u32 0, .int .u32 0, .int .u32 0, .int .u32 0, .int .u32 0, .int .u32 0, .int .u32 0, .int .u32 0, .int .u32 0, .int .u32 0, .int .u32 0, .int .u32 0, .int .u32 0, .int .u32 0, .int .u32 0, .int .u32 0, .int .u32 0, .int .u32 0, .int .u32 0, .int .u32 0, .int .u32 0, .int .u32 0, .int .u32 0, .int .u32 0, .int .u32 0, .int .u32 0, .int .u32 0, .int .u32 0, .int .u32 0, .int .u32 0, .int .u32 0, .int .u32 0, .int .u32 0, .int .u32 0, .int .u32 0, .int .u32 0, .int .u32 0, .int .u32 0, .int .u32 0, .int .u32 0, .int .u32 0, .int .u32 0, .int .u32 0, .int .u32 0, .int .u32 0, .int .u32 0, .int .u32 0, .int .u32 0, .int .u32 0, .int .u32 0] 88) = W0 := hW0
  have HP0 : Hid (RW W0 n s 68 ∧ RW W0 (n + 1) (List.replicate 64 0) 88 ∧ W0.heap.size = n + 2 ∧ Below n w W0) := by
    show RW W0 n s _ ∧ _ ∧ _ ∧ _
    rw [← hW0, ← hn]
    refine ⟨?_, ?_, by simp [size_alloc], ((Below.refl _ _).alloc (Nat.le_refl _) _).alloc (by simp) _⟩
    all_goals simp only [RW, heap_alloc_any, size_alloc]
    · rw [if_neg (by omega), if_pos trivial]
    · rw [if_pos trivial]
  have HSS : Hid (St s) := hs
  have HSP : Hid (∀ w, Calls Try.prog 48 #[.agg (VN .u32 s)] w fun e w' => e = .returned (.agg (VN .u32 (wv (ctr s)))) ∧ Below w.heap.size w w') := fun w => spread_any s hs w
  have HIS : Hid ((Try.prog.info? 68).map (·.size) = some (VN .u32 s).size) := infoWs hs.len
  have HIF : Hid ((Try.prog.info? 88).map (·.size) = some (VN .u32 (wv (ctr s))).size) := infoFs (wv_len _)
  have HSZ : Hid ((VN .u32 (List.replicate 64 0)).size = (VN .u32 (wv (ctr s))).size) := by
    have : (VN .u32 (List.replicate 64 0)).size = (VN .u32 (wv (ctr s))).size := by rw [VN_size, VN_size, wv_len, List.length_replicate]
    exact this
  have HN : Hid (w.heap.size = n) := hn
  have HCS : Hid (∀ l, St (ctr s l)) := fun l => ctr_st hs l
  clear hs hW0
  go_enter Try.func44, Try.ntmps44
  go_wp2_with (first | (go_at_call 48; refine (HSP.out W0).mono ?_; rintro e w1 ⟨rfl, hb1⟩) | (with_reducible refine at_list ?_; first | (refine wpList_load_row rfl 68 (.tmp 1) rfl n rfl 68 (VN .u32 s) (0, 0) _ HP0.out.1 Try.underlying68 rfl HIS.out ?_) | (refine hold_store 88 (.tmp 3) (.tmp 12) rfl ?_)))
  refine store_row_new rfl 88 (.tmp 3) (.tmp 12) rfl w1.heap.size (VN .u32 (wv (ctr s))) rfl rfl rfl 88 (VN .u32 (List.replicate 64 0)) HIF.out HSZ.out (VN_one _ _) ?_
  obtain ⟨m, hm⟩ : ∃ m, w1.heap.size = m := ⟨_, rfl⟩
  obtain ⟨W1, hW1⟩ : ∃ W, w1.alloc (.cells (VN .u32 (wv (ctr s))) 88) = W := ⟨_, rfl⟩
  rw [hW1, hm]
  have HF1 : Hid (RW W1 m (wv (ctr s)) 88) := by
    show RW W1 m _ _
    rw [← hW1, ← hm]; simp only [RW, heap_alloc_any]; rw [if_pos trivial]
  have HS1 : Hid (W1.heap.size = m + 1) := by
    show W1.heap.size = m + 1
    rw [← hW1, ← hm]; simp [size_alloc]
  have HST : Hid (GW n m w (wv (ctr s)) (wv (ctr s)) (W1.alloc (.cells (VN .u32 (wv (ctr s))) 88))) := by
    obtain ⟨_, p2, p3, p4⟩ := HP0.out
    have s1 := HS1.out
    have hle : n + 2 ≤ m := by have := hb1.size; omega
    have hbb : Below m w1 W1 := by rw [← hW1, ← hm]; exact (Below.refl _ _).alloc (Nat.le_refl _) _
    have hb2 : Below (m + 1) W1 (W1.alloc (.cells (VN .u32 (wv (ctr s))) 88)) := by rw [← s1]; exact (Below.refl _ _).alloc (Nat.le_refl _) _
    refine ⟨p4.trans ((hb1.mono (by omega)).trans ((hbb.mono (by omega)).trans (hb2.mono (by omega)))), hle, by simp [size_alloc, s1], ?_, ?_, ?_⟩
    · exact (hb2.block _ (by omega)).trans ((hbb.block _ (by omega)).trans ((hb1.block _ (by omega)).trans p2))
    · exact (hb2.block _ (by omega)).trans HF1.out
    · simp only [RW, heap_alloc_any, s1]; rw [if_pos trivial]
  clear hb1 hW0' HP0 HSP
  go_wp2_with (with_reducible refine at_list ?_; first | (refine wpList_load_row rfl 88 (.tmp 3) rfl m rfl 88 (VN .u32 (wv (ctr s))) (0, 0) _ HF1.out Try.underlying88 rfl HIF.out ?_) | (refine hold_store 88 (.tmp 4) (.tmp 13) rfl ?_))
  refine store_row_new rfl 88 (.tmp 4) (.tmp 13) rfl W1.heap.size (VN .u32 (wv (ctr s))) rfl rfl rfl 88 (VN .u32 (List.replicate 64 0)) HIF.out HSZ.out (VN_one _ _) ?_
  obtain ⟨W, hW⟩ : ∃ W, W1.alloc (.cells (VN .u32 (wv (ctr s))) 88) = W := ⟨_, rfl⟩
  rw [hW] at HST ⊢
  rw [HS1.out]
  clear hW hW1 HS1 HF1
  go_wp2
  have HQ : Hid (∀ (f : Nat → List Nat) (wr : World) (i j k q : Nat), (∀ l, l < 4 → St (f l)) → GW n m w (wv (ctr s)) (wv f) wr → i < 16 → j < 16 → k < 16 → q < 16 → i ≠ j → i ≠ k → i ≠ q → j ≠ k → j ≠ q → k ≠ q → Calls Try.prog 49 #[.pointer (some ⟨m + 1, 4 * i, none⟩), .pointer (some ⟨m + 1, 4 * j, none⟩), .pointer (some ⟨m + 1, 4 * k, none⟩), .pointer (some ⟨m + 1, 4 * q, none⟩)] wr fun e w' => e = .returned (.tuple #[]) ∧ GW n m w (wv (ctr s)) (wv fun l => qat (f l) i j k q) w') := by
    intro f wr i j k q hf h hi hj hk hq a b c d e g
    refine (quarters_any (m + 1) i j k q f 88 wr h.hs hf hi hj hk hq a b c d e g).mono ?_
    rintro e w' ⟨he, h1, h2⟩
    exact ⟨he, h.but h1 h2⟩
  go_loopw [14] (fun v w' => ∃ r : Nat, r ≤ 10 ∧ v = .int .i64 r ∧ GW n m w (wv (ctr s)) (wv fun l => rnds r (ctr s l)) w') (fun v _ => 10 - (intOf v).toNat)
  case atStart => exact ⟨0, Nat.zero_le _, rfl, HST.out⟩
  case round =>
    clear HST
    obtain ⟨r, hr, rfl, hp⟩ := hrel
    by_cases hlt : r < 10
    · have HL : Hid (∀ l, St (rnds r (ctr s l))) := fun l => (HCS.out l).rnds r
      have HP : Hid (GW n m w (wv (ctr s)) (wv fun l => cols 0 (rnds r (ctr s l))) wr) := hp
      have HD : Hid (∀ w', GW n m w (wv (ctr s)) (wv fun l => dias 4 (cols 4 (rnds r (ctr s l)))) w' → GW n m w (wv (ctr s)) (wv fun l => rnds (r + 1) (ctr s l)) w') := fun _ h => h
      clear hp
      obtain ⟨t, ht⟩ : ∃ t : Nat → List Nat, ∀ l, rnds r (ctr s l) = t l := ⟨_, fun _ => rfl⟩
      simp only [ht] at HL HP HD
      clear ht
      go_wp2
      go_loopw [16] (fun v w' => ∃ i : Nat, i ≤ 4 ∧ v = .int .i64 i ∧ GW n m w (wv (ctr s)) (wv fun l => cols i (t l)) w') (fun v _ => 4 - (intOf v).toNat)
      case atStart => exact ⟨0, Nat.zero_le _, rfl, HP.out⟩
      case round =>
        clear HP
        obtain ⟨i, hi, rfl, hp⟩ := hrel
        by_cases hlt2 : i < 4
        · have HCx : Hid (Calls Try.prog 49 #[.pointer (some ⟨m + 1, 4 * i, none⟩), .pointer (some ⟨m + 1, 4 * (4 + i), none⟩), .pointer (some ⟨m + 1, 4 * (8 + i), none⟩), .pointer (some ⟨m + 1, 4 * (12 + i), none⟩)] wr.drew fun e w' => e = .returned (.tuple #[]) ∧ GW n m w (wv (ctr s)) (wv fun l => cols (i + 1) (t l)) w') := HQ.out (fun l => cols i (t l)) wr.drew i (4 + i) (8 + i) (12 + i) (fun l _ => (HL.out l).cols i) hp.drew (by omega) (by omega) (by omega) (by omega) (by omega) (by omega) (by omega) (by omega) (by omega) (by omega)
          have hi4 : Hid (i < 4) := hlt2
          clear hp
          go_upto_region 8 with fail
          refine wp_as (c' := rgFo8) (by kernel_rfl) ?_
          refine Fo8 (g := m + 1) (i := i) (R := fun w' => GW n m w (wv (ctr s)) (wv fun l => cols (i + 1) (t l)) w') hi4 HCx (fun _ _ d _ _ h => by cases d <;> exact h) ?_
          intro w2 h2
          have H2 : Hid (GW n m w (wv (ctr s)) (wv fun l => cols (i + 1) (t l)) w2) := h2
          clear h2 HCx
          go_wp2
          go_roundw
          case rel => exact ⟨i + 1, by omega, by go_num, H2.out⟩
          case measure => simp [intOf]; omega
        · have hi' : i = 4 := by omega
          subst hi'
          have HP : Hid (GW n m w (wv (ctr s)) (wv fun l => dias 0 (cols 4 (t l))) wr) := hp
          have HL4 : Hid (∀ l, St (cols 4 (t l))) := fun l => (HL.out l).cols 4
          clear hp HL
          obtain ⟨t4, ht⟩ : ∃ t4 : Nat → List Nat, ∀ l, cols 4 (t l) = t4 l := ⟨_, fun _ => rfl⟩
          simp only [ht] at HL4 HP HD
          clear ht
          go_wp2
          go_loopw [32] (fun v w' => ∃ i : Nat, i ≤ 4 ∧ v = .int .i64 i ∧ GW n m w (wv (ctr s)) (wv fun l => dias i (t4 l)) w') (fun v _ => 4 - (intOf v).toNat)
          case atStart => exact ⟨0, Nat.zero_le _, rfl, HP.out⟩
          case round =>
            clear HP
            obtain ⟨i, hi, rfl, hp⟩ := hrel
            by_cases hlt2 : i < 4
            · have HCx : Hid (Calls Try.prog 49 #[.pointer (some ⟨m + 1, 4 * i, none⟩), .pointer (some ⟨m + 1, 4 * (4 + (i + 1) % 4), none⟩), .pointer (some ⟨m + 1, 4 * (8 + (i + 2) % 4), none⟩), .pointer (some ⟨m + 1, 4 * (12 + (i + 3) % 4), none⟩)] wr.drew fun e w' => e = .returned (.tuple #[]) ∧ GW n m w (wv (ctr s)) (wv fun l => dias (i + 1) (t4 l)) w') := HQ.out (fun l => dias i (t4 l)) wr.drew i (4 + (i + 1) % 4) (8 + (i + 2) % 4) (12 + (i + 3) % 4) (fun l _ => (HL4.out l).dias i) hp.drew (by omega) (by omega) (by omega) (by omega) (by omega) (by omega) (by omega) (by omega) (by omega) (by omega)
              have hi4 : Hid (i < 4) := hlt2
              clear hp
              go_upto_region 13 with fail
              refine wp_as (c' := rgFo13) (by kernel_rfl) ?_
              refine Fo13 (g := m + 1) (i := i) (R := fun w' => GW n m w (wv (ctr s)) (wv fun l => dias (i + 1) (t4 l)) w') hi4 HCx (fun _ _ d _ _ h => by cases d <;> exact h) ?_
              intro w2 h2
              have H2 : Hid (GW n m w (wv (ctr s)) (wv fun l => dias (i + 1) (t4 l)) w2) := h2
              clear h2 HCx
              go_wp2
              go_roundw
              case rel => exact ⟨i + 1, by omega, by go_num, H2.out⟩
              case measure => simp [intOf]; omega
            · have hi' : i = 4 := by omega
              subst hi'
              have H2 : Hid (GW n m w (wv (ctr s)) (wv fun l => rnds (r + 1) (ctr s l)) wr) := HD.out _ hp
              clear hp HD HL4
              go_wp2
              go_roundw
              case rel => exact ⟨r + 1, by omega, by go_num, H2.out⟩
              case measure => simp [intOf]; omega
    · have hr' : r = 10 := by omega
      subst hr'
      have sr : ∀ l, St (rnds 10 (ctr s l)) := fun l => (HCS.out l).rnds 10
      have eb : (wv fun l => blk (ctr s l)) = List.zipWith ad (wv fun l => rnds 10 (ctr s l)) (wv (ctr s)) := by
        rw [wv_zip _ _ (fun l _ => (sr l).len) (fun l _ => (HCS.out l).len)]
        unfold blk; rfl
      obtain ⟨bs, hbs⟩ : ∃ x, (wv fun l => blk (ctr s l)) = x := ⟨_, rfl⟩
      rw [hbs] at eb
      have HEB : Hid ((wv fun l => blk (ctr s l)) = bs) := hbs
      have lb : bs.length = 64 := by rw [← hbs, wv_len]
      clear hbs
      have lr : (wv fun l => rnds 10 (ctr s l)).length = 64 := wv_len _
      have lf : (wv (ctr s)).length = 64 := wv_len _
      have br : W32 (wv fun l => rnds 10 (ctr s l)) := wv_w fun l _ => (sr l).bd
      have bf : W32 (wv (ctr s)) := wv_w fun l _ => (HCS.out l).bd
      obtain ⟨rs, hrs⟩ : ∃ x, (wv fun l => rnds 10 (ctr s l)) = x := ⟨_, rfl⟩
      rw [hrs] at hp eb lr br
      clear hrs sr HCS HQ
      generalize wv (ctr s) = F at *
      have HA : Hid (∀ k w', k < 64 → GW n m w F (bs.take k ++ rs.drop k) w' → (rs.getD k 0 < 4294967296 ∧ w'.cell? ⟨m + 1, k, none⟩ = some (.int .u32 ((rs.getD k 0 : Nat) : Int)) ∧ w'.frozen? ⟨m + 1, k, none⟩ = false ∧ GW n m w F (bs.take (k + 1) ++ rs.drop (k + 1)) (w'.setCell ⟨m + 1, k, none⟩ (.int .u32 ((ad (rs.getD k 0) (F.getD k 0) : Nat) : Int))))) := by
        intro k w' hk h
        have hset := h.set k (ad (rs.getD k 0) (F.getD k 0))
        have hc := h.hs.cell (i := k) (by simp [lb, lr]; omega)
        rw [eb, take_addD _ _ k (by omega) (by omega) (by omega), ← eb] at hset
        rw [eb, take_addG _ _ k (by omega) (by omega)] at hc
        exact ⟨br.at k, hc, h.hs.froz k, hset⟩
      have HP : Hid (GW n m w F (bs.take 0 ++ rs.drop 0) wr) := hp
      have HX : Hid (∀ i : Nat, i < 16 → ∀ w : World, (Instr.index 88 (.agg (VN .u32 F)) (.int .i64 (i : Int))).run Try.prog w = .ok (.agg #[.int .u32 ((F.getD (4 * i) 0 : Nat) : Int), .int .u32 ((F.getD (4 * i + 1) 0 : Nat) : Int), .int .u32 ((F.getD (4 * i + 2) 0 : Nat) : Int), .int .u32 ((F.getD (4 * i + 3) 0 : Nat) : Int)]) w) := fun i hi w => run_index_four w F i lf hi
      have HE : Hid (∀ w', GW n m w F (bs.take (4 * 16) ++ rs.drop (4 * 16)) w' → GW n m w F bs w') := fun w' h => by
        rw [List.take_of_length_le (by rw [lb]; omega), List.drop_of_length_le (by rw [lr]; omega), List.append_nil] at h
        exact h
      have HIB : Hid ((Try.prog.info? 88).map (·.size) = some (VN .u32 bs).size) := infoFs lb
      have HSB : Hid ((VN .u32 (List.replicate 64 0)).size = (VN .u32 bs).size) := by
        have : (VN .u32 (List.replicate 64 0)).size = (VN .u32 bs).size := by rw [VN_size, VN_size, lb, List.length_replicate]
        exact this
      have HBF : Hid (W32 F) := bf
      clear hp hlt hr eb lb lr lf br bf
      go_wp2_with (with_reducible refine at_list ?_; first | (refine wpList_load_row rfl 88 (.tmp 3) rfl m rfl 88 (VN .u32 F) (0, 0) _ HP.out.hf Try.underlying88 rfl HIF.out ?_))
      go_loopw [56] (fun v w' => ∃ i : Nat, i ≤ 16 ∧ v = .int .i64 i ∧ GW n m w F (bs.take (4 * i) ++ rs.drop (4 * i)) w') (fun v _ => 16 - (intOf v).toNat)
      case atStart => exact ⟨0, Nat.zero_le _, rfl, HP.out⟩
      case round =>
        clear HP
        obtain ⟨i, hi, rfl, hp⟩ := hrel
        by_cases hlt : i < 16
        · have hix := HX.out i hlt
          have b1 : (i : Int) < 16 := by omega
          have HAi : Hid (∀ l w', l < 4 → GW n m w F (bs.take (4 * i + l) ++ rs.drop (4 * i + l)) w' → (rs.getD (4 * i + l) 0 < 4294967296 ∧ w'.cell? ⟨m + 1, i * 4 + l, none⟩ = some (.int .u32 ((rs.getD (4 * i + l) 0 : Nat) : Int)) ∧ w'.frozen? ⟨m + 1, i * 4 + l, none⟩ = false ∧ GW n m w F (bs.take (4 * i + (l + 1)) ++ rs.drop (4 * i + (l + 1))) (w'.setCell ⟨m + 1, i * 4 + l, none⟩ (.int .u32 ((ad (rs.getD (4 * i + l) 0) (F.getD (4 * i + l) 0) : Nat) : Int))))) := fun l w' hl h => by
            have := HA.out (4 * i + l) w' (by omega) h
            rw [Nat.mul_comm i 4]
            exact this
          have HXF : Hid (∀ l, l < 4 → [F.getD (4 * i) 0, F.getD (4 * i + 1) 0, F.getD (4 * i + 2) 0, F.getD (4 * i + 3) 0].getD l 0 = F.getD (4 * i + l) 0) := fun l hl => by
            rcases (by omega : l = 0 ∨ l = 1 ∨ l = 2 ∨ l = 3) with rfl | rfl | rfl | rfl <;> rfl
          generalize F.getD (4 * i) 0 = x0 at *
          generalize F.getD (4 * i + 1) 0 = x1 at *
          generalize F.getD (4 * i + 2) 0 = x2 at *
          generalize F.getD (4 * i + 3) 0 = x3 at *
          have HP : Hid (GW n m w F (bs.take (4 * i + 0) ++ rs.drop (4 * i + 0)) (wr.alloc (.cells #[.int .u32 (x0 : Int), .int .u32 (x1 : Int), .int .u32 (x2 : Int), .int .u32 (x3 : Int)] 86))) := hp.below ((Below.refl _ _).alloc (Nat.le_refl _) _)
          have HIL : Hid (∀ (l : Nat) (w : World), l < 4 → (Instr.index 86 (.agg #[.int .u32 (x0 : Int), .int .u32 (x1 : Int), .int .u32 (x2 : Int), .int .u32 (x3 : Int)]) (.int .i64 (l : Int))).run Try.prog w = .ok (.int .u32 ((F.getD (4 * i + l) 0 : Nat) : Int)) w) := fun l w hl => by
            have := run_index_vn w 86 24 .u32 .i64 4 [x0, x1, x2, x3] l rfl hl Try.underlying86 Try.underlying24 size_u32
            rw [HXF.out l hl] at this
            exact this
          clear hp HA HX HXF
          go_wp2
          obtain ⟨W2, hW2⟩ : ∃ W2, wr.alloc (.cells #[.int .u32 (x0 : Int), .int .u32 (x1 : Int), .int .u32 (x2 : Int), .int .u32 (x3 : Int)] 86) = W2 := ⟨_, rfl⟩
          rw [hW2] at HP ⊢
          clear hW2
          go_loopw [61] (fun v w' => ∃ l : Nat, l ≤ 4 ∧ v = .int .i64 l ∧ GW n m w F (bs.take (4 * i + l) ++ rs.drop (4 * i + l)) w') (fun v _ => 4 - (intOf v).toNat)
          case atStart => exact ⟨0, Nat.zero_le _, rfl, HP.out⟩
          case round =>
            clear HP
            obtain ⟨l, hl, rfl, hp⟩ := hrel
            by_cases hlt2 : l < 4
            · obtain ⟨y1, c1, f1, h1⟩ := HAi.out l _ hlt2 hp
              have hil := HIL.out l wr hlt2
              have y2 := HBF.out.at (4 * i + l)
              have pa := wrap32 (rs.getD (4 * i + l) 0) (F.getD (4 * i + l) 0)
              generalize ad (rs.getD (4 * i + l) 0) (F.getD (4 * i + l) 0) = z at *
              generalize rs.getD (4 * i + l) 0 = xr at *
              generalize F.getD (4 * i + l) 0 = xs at *
              have b2 : (l : Int) < 4 := by omega
              have H1 : Hid (GW n m w F (bs.take (4 * i + (l + 1)) ++ rs.drop (4 * i + (l + 1))) (wr.setCell ⟨m + 1, i * 4 + l, none⟩ (.int .u32 (z : Int)))) := h1
              clear h1 hp HE
              go_wp2
              go_region
              go_wp2
              go_roundw
              case rel => exact ⟨l + 1, by omega, by go_num, H1.out.drew⟩
              case measure => simp [intOf]; omega
            · have hl' : l = 4 := by omega
              subst hl'
              have H1 : Hid (GW n m w F (bs.take (4 * (i + 1)) ++ rs.drop (4 * (i + 1))) wr) := hp
              clear hp HE
              go_wp2
              go_roundw
              case rel => exact ⟨i + 1, by omega, by go_num, H1.out⟩
              case measure => simp [intOf]; omega
        · have hi' : i = 16 := by omega
          subst hi'
          have HP : Hid (GW n m w F bs wr) := HE.out _ hp
          clear hp HA HX HE
          go_wp2_with (with_reducible refine at_list ?_; first | (refine wpList_load_row rfl 88 (.tmp 4) rfl (m + 1) rfl 88 (VN .u32 bs) (0, 0) _ HP.out.hs Try.underlying88 rfl HIB.out ?_) | (refine wpList_store_row rfl 88 (.tmp 2) (.tmp 76) rfl (n + 1) (VN .u32 bs) rfl rfl 88 (VN .u32 (List.replicate 64 0)) HP.out.hr HIB.out HSB.out (VN_one _ _) ?_))
          refine bodyPost_ret (v := .agg (VN .u32 bs)) ?_ rfl ⟨by rw [HEB.out], below_setRow (by rw [HN.out]; exact HP.out.old) _ (by rw [HN.out]; omega) _⟩
          exact results_cell_row (P := Try.prog) (fn := Try.f44) (p := 2) (ty := 88) rfl _ _ (n + 1) 88 (VN .u32 bs) (0, 0) _ rfl (setRow_heap _ _ _ _ 88 _ HP.out.hr) Try.underlying88 rfl HIB.out
end Go.Proofs.Ytefnlaookmpbhaa
