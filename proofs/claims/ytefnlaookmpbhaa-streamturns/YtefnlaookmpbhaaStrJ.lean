import Derived.Test.YtefnlaookmpbhaaStrF
namespace Go.Proofs.Ytefnlaookmpbhaa
set_option linter.unusedSimpArgs false
set_option linter.unusedVariables false
open Go.ChangeShapes Go.WideShapes Go.ChangeAt Go.RowKit Go.Pin Go.Str
theorem infoF : (Try.prog.info? 88).map (·.size) = some 64 := by kernel_rfl
theorem infoFs {t : List Nat} (h : t.length = 64) : (Try.prog.info? 88).map (·.size) = some (VN .u32 t).size := by rw [VN_size, h]; exact infoF
/-- the first m cells filled -/
def fil (s : List Nat) (m : Nat) : List Nat := (List.range 64).map fun p => if p < m then s.getD (p / 4) 0 else 0
theorem fil_len (s : List Nat) (m : Nat) : (fil s m).length = 64 := by simp [fil]
theorem fil_set (s : List Nat) (m : Nat) (hm : m < 64) : (fil s m).set m (s.getD (m / 4) 0) = fil s (m + 1) := by
  apply list_ext (by simp [fil_len])
  intro p hp
  simp only [List.length_set, fil_len] at hp
  by_cases e : p = m
  · subst e
    simp [List.getD, fil, hp]
  · have e' : ¬ m = p := fun h => e h.symm
    simp only [List.getD, List.getElem?_set_ne e', fil, List.getElem?_map, List.getElem?_range hp, Option.map_some, Option.getD_some]
    by_cases h : p < m
    · simp [h, show p < m + 1 by omega]
    · simp [h, show ¬ p < m + 1 by omega]
theorem fil_full (s : List Nat) : fil s 64 = wv fun _ => s := by
  unfold fil wv
  apply List.map_congr_left
  intro p hp
  simp at hp
  simp [hp]
theorem fil_zero (s : List Nat) : fil s 0 = List.replicate 64 0 := by
  apply list_ext (by simp [fil_len])
  intro p hp
  simp only [fil_len] at hp
  simp only [List.getD, fil, List.getElem?_map, List.getElem?_range hp, List.getElem?_replicate]
  simp [hp]
/-- spread's and four's boxes -/
structure FW (n : Nat) (w : World) (s L : List Nat) (wr : World) : Prop where
  old : Below n w wr
  sz : n + 3 ≤ wr.heap.size
  hp : RW wr n s 68
  hr : RW wr (n + 1) (List.replicate 64 0) 88
  hs : RW wr (n + 2) L 88
theorem FW.set {n : Nat} {w wr : World} {s L : List Nat} (h : FW n w s L wr) (i v : Nat) : FW n w s (L.set i v) (wr.setCell ⟨n + 2, i, none⟩ (.int .u32 (v : Int))) :=
  ⟨h.old.setCell (by simp) _, by simpa using h.sz, h.hp.other (by omega) _ _, h.hr.other (by omega) _ _, h.hs.set _ _⟩
theorem FW.drew {n : Nat} {w wr : World} {s L : List Nat} (h : FW n w s L wr) : FW n w s L wr.drew := ⟨h.old.drew, h.sz, h.hp, h.hr, h.hs⟩
theorem fw_start (w : World) (s : List Nat) : FW w.heap.size w s (fil s 0) (((w.alloc (.cells (VN .u32 s) 68)).alloc (.cells (VN .u32 (List.replicate 64 0)) 88)).alloc (.cells (VN .u32 (List.replicate 64 0)) 88)) := by
  rw [fil_zero]
  refine ⟨(((Below.refl _ _).alloc (Nat.le_refl _) _).alloc (by simp) _).alloc (by simp; omega) _, by simp [size_alloc], ?_, ?_, ?_⟩
  all_goals simp only [RW, heap_alloc_any, size_alloc]
  · rw [if_neg (by omega), if_neg (by omega), if_pos trivial]
  · rw [if_neg (by omega), if_pos trivial]
  · rw [if_pos trivial]
/-- a state with its counter l on -/
def ctr (s : List Nat) (l : Nat) : List Nat := s.set 12 (ad (s.getD 12 0) l)
theorem ctr_st {s : List Nat} (h : St s) (l : Nat) : St (ctr s l) := ⟨by simp [ctr, h.len], h.bd.set _ _ (ad_lt _ _)⟩
set_option maxRecDepth 100000 in
set_option maxHeartbeats 4000000 in
theorem spread_any (s : List Nat) (hs : St s) (w : World) :
    Calls Try.prog 48 #[.agg (VN .u32 s)] w fun e w' => e = .returned (.agg (VN .u32 (wv (ctr s)))) ∧ Below w.heap.size w w' := by
  have hst := fw_start w s
  obtain ⟨n, hn⟩ : ∃ n, w.heap.size = n := ⟨_, rfl⟩
  obtain ⟨W, hW⟩ : ∃ W, (((w.alloc (.cells (VN .u32 s) 68)).alloc (.cells (VN .u32 (List.replicate 64 0)) 88)).alloc (.cells (VN .u32 (List.replicate 64 0)) 88)) = W := ⟨_, rfl⟩
  rw [hW, hn] at hst
  have hW' : (((w.alloc (.cells (VN .u32 s) 68)).alloc (.cells #[.int .u32 0, .int .u32 0, .int .u32 0, .int .u32 0, .int .u32 0, .int .u32 0, .int .u32 0, .int .u32 0, .int .u32 0, .int .u32 0, .int .u32 0, .int .u32 0, .int .u32 0, .int .u32 0, .int .u32 0, .int .u32 0, .int .u32 0, .int .u32 0, .int .u32 0, .int .u32 0, .int .u32 0, .int .u32 0, .int .u32 0, .int .u32 0, .int .u32 0, .int .u32 0, .int .u32 0, .int .u32 0, .int .u32 0, .int .u32 0, .int .u32 0, .int .u32 0, .int .u32 0, .int .u32 0, .int .u32 0, .int .u32 0, .int .u32 0, .int .u32 0, .int .u32 0, .int .u32 0, .int .u32 0, .int .u32 0, .int .u32 0, .int .u32 0, .int .u32 0, .int .u32 0, .int .u32 0, .int .u32 0, .int .u32 0, .int .u32 0, .int .u32 0, .int .u32 0, .int .u32 0, .int .u32 0, .int .u32 0, .int .u32 0, .int .u32 0, .int .u32 0, .int .u32 0, .int .u32 0, .int .u32 0, .int .u32 0, .int .u32 0, .int .u32 0] 88)).alloc (.cells #[.int .u32 0, .int .u32 0, .int .u32 0, .int .u32 0, .int .u32 0, .int .u32 0, .int .u32 0, .int .u32 0, .int .u32 0, .int .u32 0, .int .u32 0, .int .u32 0, .int .u32 0, .int .u32 0, .int .u32 0, .int .u32 0, .int .u32 0, .int .u32 0, .int .u32 0, .int .u32 0, .int .u32 0, .int .u32 0, .int .u32 0, .int .u32 0, .int .u32 0, .int .u32 0, .int .u32 0, .int .u32 0, .int .u32 0, .int .u32 0, .int .u32 0, .int .u32 0, .int .u32 0, .int .u32 0, .int .u32 0, .int .u32 0, .int .u32 0, .int .u32 0, .int .u32 0, .int .u32 0, .int .u32 0, .int .u32 0, .int .u32 0, .int .u32 0, .int .u32 0, .int .u32 0, .int .u32 0, .int .u32 0, .int .u32 0, .int .u32 0, .int .u32 0, .int .u32 0, .int .u32 0, .int .u32 0, .int .u32 0, .int .u32 0, .int .u32 0, .int .u32 0, .int .u32 0, .int .u32 0, .int .u32 0, .int .u32 0, .int .u32 0, .int .u32 0] 88)) = W := hW
  have HST : Hid (FW n w s (fil s 0) W) := hst
  have HSS : Hid (St s) := hs
  have HIS : Hid ((Try.prog.info? 68).map (·.size) = some (VN .u32 s).size) := infoWs hs.len
  have HN : Hid (w.heap.size = n) := hn
  have HF : Hid (∀ m w', m < 64 → FW n w s (fil s m) w' → (∃ x : Nat, w'.cell? ⟨n + 2, m, none⟩ = some (.int .u32 (x : Int))) ∧ w'.frozen? ⟨n + 2, m, none⟩ = false ∧ FW n w s (fil s (m + 1)) (w'.setCell ⟨n + 2, m, none⟩ (.int .u32 ((s.getD (m / 4) 0 : Nat) : Int)))) := fun m w' hm h => by
    have hset := h.set m (s.getD (m / 4) 0)
    rw [fil_set _ _ hm] at hset
    exact ⟨⟨_, h.hs.cell (by rw [fil_len]; exact hm)⟩, h.hs.froz _, hset⟩
  have HX : Hid (∀ k, k < 16 → s.getD k 0 < 4294967296 ∧ ∀ w : World, (Instr.index 68 (.agg (VN .u32 s)) (.int .i64 (k : Int))).run Try.prog w = .ok (.int .u32 ((s.getD k 0 : Nat) : Int)) w) := fun k hk => ⟨hs.bd.at k, fun w => run_index_vn w 68 24 .u32 .i64 16 s k hs.len hk Try.underlying68 Try.underlying24 size_u32⟩
  clear hst hs hW
  go_enter Try.func48, Try.ntmps48
  go_wp2_with (with_reducible refine at_list ?_; first | (refine wpList_load_row rfl 68 (.tmp 1) rfl n rfl 68 (VN .u32 s) (0, 0) _ HST.out.hp Try.underlying68 rfl HIS.out ?_))
  rw [show n + 1 + 1 = n + 2 from rfl]
  go_loopw [9] (fun v w' => ∃ i : Nat, i ≤ 16 ∧ v = .int .i64 i ∧ FW n w s (fil s (4 * i)) w') (fun v _ => 16 - (intOf v).toNat)
  case atStart => exact ⟨0, Nat.zero_le _, rfl, HST.out⟩
  case round =>
    clear HST hW'
    obtain ⟨i, hi, rfl, hp⟩ := hrel
    by_cases hlt : i < 16
    · obtain ⟨x1, hix⟩ := HX.out i hlt
      have HP : Hid (FW n w s (fil s (4 * i + 0)) wr) := hp
      have HFi : Hid (∀ l w', l < 4 → FW n w s (fil s (4 * i + l)) w' → (∃ x : Nat, w'.cell? ⟨n + 2, i * 4 + l, none⟩ = some (.int .u32 (x : Int))) ∧ w'.frozen? ⟨n + 2, i * 4 + l, none⟩ = false ∧ FW n w s (fil s (4 * i + (l + 1))) (w'.setCell ⟨n + 2, i * 4 + l, none⟩ (.int .u32 ((s.getD i 0 : Nat) : Int)))) := fun l w' hl h => by
        have := HF.out (4 * i + l) w' (by omega) h
        rw [show (4 * i + l) / 4 = i by omega] at this
        rw [Nat.mul_comm i 4]
        exact this
      clear hp
      generalize s.getD i 0 = xs at *
      have b1 : (i : Int) < 16 := by omega
      go_wp2
      go_loopw [13] (fun v w' => ∃ l : Nat, l ≤ 4 ∧ v = .int .i64 l ∧ FW n w s (fil s (4 * i + l)) w') (fun v _ => 4 - (intOf v).toNat)
      case atStart => exact ⟨0, Nat.zero_le _, rfl, HP.out⟩
      case round =>
        clear HP
        obtain ⟨l, hl, rfl, hp⟩ := hrel
        by_cases hlt2 : l < 4
        · obtain ⟨⟨x, c1⟩, f1, h1⟩ := HFi.out l _ hlt2 hp
          have b2 : (l : Int) < 4 := by omega
          have H1 : Hid (FW n w s (fil s (4 * i + (l + 1))) (wr.setCell ⟨n + 2, i * 4 + l, none⟩ (.int .u32 (xs : Int)))) := h1
          clear h1 hp
          go_wp2
          go_roundw
          case rel => exact ⟨l + 1, by omega, by go_num, H1.out⟩
          case measure => simp [intOf]; omega
        · have hl' : l = 4 := by omega
          subst hl'
          have H1 : Hid (FW n w s (fil s (4 * (i + 1))) wr) := hp
          clear hp
          go_wp2
          go_roundw
          case rel => exact ⟨i + 1, by omega, by go_num, H1.out⟩
          case measure => simp [intOf]; omega
    · have hi' : i = 16 := by omega
      subst hi'
      have HP : Hid (FW n w s (wv (fst4 (fun _ => s) (ctr s) 0)) wr) := by
        have hp := hp
        rw [show 4 * 16 = 64 from rfl, fil_full] at hp
        exact hp
      have HG : Hid (∀ l w', l < 4 → FW n w s (wv (fst4 (fun _ => s) (ctr s) l)) w' → w'.cell? ⟨n + 2, 48 + l, none⟩ = some (.int .u32 ((s.getD 12 0 : Nat) : Int)) ∧ w'.frozen? ⟨n + 2, 48 + l, none⟩ = false ∧ FW n w s (wv (fst4 (fun _ => s) (ctr s) (l + 1))) (w'.setCell ⟨n + 2, 48 + l, none⟩ (.int .u32 ((ad (s.getD 12 0) l : Nat) : Int)))) := fun l w' hl h => by
        have e1 : fst4 (fun _ => s) (ctr s) l l = s := by simp [fst4]
        have hc := h.hs.cell (i := 4 * 12 + l) (by rw [wv_len]; omega)
        rw [wv_at4 _ 12 l (by decide) hl, e1] at hc
        have hset := h.set (4 * 12 + l) (ad (s.getD 12 0) l)
        rw [wv_set _ 12 l _ (by decide) hl (by rw [e1]; exact HSS.out.len), e1, show s.set 12 (ad (s.getD 12 0) l) = ctr s l from rfl, fst4_succ] at hset
        exact ⟨hc, h.hs.froz _, hset⟩
      have HE : Hid (∀ w', FW n w s (wv (fst4 (fun _ => s) (ctr s) 4)) w' → FW n w s (wv (ctr s)) w') := fun w' h => by
        rw [wv_congr (g := ctr s) (fun l hl => by simp [fst4, hl])] at h; exact h
      have HIB : Hid ((Try.prog.info? 88).map (·.size) = some (VN .u32 (wv (ctr s))).size) := infoFs (wv_len _)
      have HSB : Hid ((VN .u32 (List.replicate 64 0)).size = (VN .u32 (wv (ctr s))).size) := by
        have : (VN .u32 (List.replicate 64 0)).size = (VN .u32 (wv (ctr s))).size := by rw [VN_size, VN_size, wv_len, List.length_replicate]
        exact this
      have x12 := (HX.out 12 (by decide)).1
      clear hp hlt hi HF HX
      obtain ⟨rs, hrs⟩ : ∃ x, wv (ctr s) = x := ⟨_, rfl⟩
      have HEB : Hid (wv (ctr s) = rs) := hrs
      rw [hrs] at HE HIB HSB
      clear hrs
      generalize s.getD 12 0 = xs at *
      go_wp2
      go_loopw [23] (fun v w' => ∃ l : Nat, l ≤ 4 ∧ v = .int .i64 l ∧ FW n w s (wv (fst4 (fun _ => s) (ctr s) l)) w') (fun v _ => 4 - (intOf v).toNat)
      case atStart => exact ⟨0, Nat.zero_le _, rfl, HP.out⟩
      case round =>
        clear HP
        obtain ⟨l, hl, rfl, hp⟩ := hrel
        by_cases hlt2 : l < 4
        · obtain ⟨c1, f1, h1⟩ := HG.out l _ hlt2 hp
          have b2 : (l : Int) < 4 := by omega
          have pa := wrap32 xs l
          generalize ad xs l = z at *
          have H1 : Hid (FW n w s (wv (fst4 (fun _ => s) (ctr s) (l + 1))) (wr.setCell ⟨n + 2, 48 + l, none⟩ (.int .u32 (z : Int)))) := h1
          clear h1 hp HG HE
          go_wp2
          go_roundw
          case rel => exact ⟨l + 1, by omega, by go_num, H1.out⟩
          case measure => simp [intOf]; omega
        · have hl' : l = 4 := by omega
          subst hl'
          have HP : Hid (FW n w s rs wr) := HE.out _ hp
          clear hp HG HE
          go_wp2_with (with_reducible refine at_list ?_; first | (refine wpList_load_row rfl 88 (.tmp 3) rfl (n + 2) rfl 88 (VN .u32 rs) (0, 0) _ HP.out.hs Try.underlying88 rfl HIB.out ?_) | (refine wpList_store_row rfl 88 (.tmp 2) (.tmp 36) rfl (n + 1) (VN .u32 rs) rfl rfl 88 (VN .u32 (List.replicate 64 0)) HP.out.hr HIB.out HSB.out (VN_one _ _) ?_))
          refine bodyPost_ret (v := .agg (VN .u32 rs)) ?_ rfl ⟨by rw [HEB.out], below_setRow (by rw [HN.out]; exact HP.out.old) _ (by rw [HN.out]; omega) _⟩
          exact results_cell_row (P := Try.prog) (fn := Try.f48) (p := 2) (ty := 88) rfl _ _ (n + 1) 88 (VN .u32 rs) (0, 0) _ rfl (setRow_heap _ _ _ _ 88 _ HP.out.hr) Try.underlying88 rfl HIB.out
end Go.Proofs.Ytefnlaookmpbhaa
