import Derived.Test.YtefnlaookmpbhaaStrD
import Derived.Test.YtefnlaookmpbhaaStrH
namespace Go.Proofs.Ytefnlaookmpbhaa
set_option linter.unusedSimpArgs false
set_option linter.unusedVariables false
open Go.ChangeShapes Go.WideShapes Go.ChangeAt Go.RowKit Go.Pin Go.Str
theorem size_u32 (w : World) : (sizeOf 24).run Try.prog w = .ok 1 w := by kernel_rfl
theorem run_index_vn (w : World) (t e : TypeId) (k kk : IntKind) (n : Nat) (l : List Nat) (i : Nat) (hl : l.length = n) (hi : i < n)
    (ht : Try.prog.underlying t = some (.array n e)) (he : Try.prog.underlying e = some (.int k)) (hs : ∀ w, (sizeOf e).run Try.prog w = .ok 1 w) :
    (Instr.index t (.agg (VN k l)) (.int kk (i : Int))).run Try.prog w = .ok (.int k ((l.getD i 0 : Nat) : Int)) w := by
  have := run_index_row (P := Try.prog) w t e k kk n (l.map Int.ofNat) i (by simpa using hl) hi ht he hs
  rw [show (l.map Int.ofNat).getD i 0 = ((l.getD i 0 : Nat) : Int) by simp [List.getD, List.getElem?_eq_getElem (show i < l.length by omega)]] at this
  exact this
theorem infoW : (Try.prog.info? 68).map (·.size) = some 16 := by kernel_rfl
theorem infoWs {t : List Nat} (h : t.length = 16) : (Try.prog.info? 68).map (·.size) = some (VN .u32 t).size := by rw [VN_size, h]; exact infoW
theorem RW.other {w : World} {g : Nat} {L : List Nat} {T : TypeId} (h : RW w g L T) {g' : Nat} (hn : g ≠ g') (i : Nat) (v : Value) : RW (w.setCell ⟨g', i, none⟩ v) g L T := (heap_setCell_other _ _ _ _ hn).trans h
theorem RW.but {w w' : World} {S : Nat → Prop} {g : Nat} {L : List Nat} {T : TypeId} (h : RW w g L T) (hb : But S w w') (hn : ¬ S g) : RW w' g L T := (hb.block g hn).trans h
/-- one's boxes: the state, the answer, what is turned -/
structure OW (n : Nat) (w : World) (s L : List Nat) (wr : World) : Prop where
  old : Below n w wr
  sz : n + 3 ≤ wr.heap.size
  hp : RW wr n s 68
  hr : RW wr (n + 1) (List.replicate 16 0) 68
  hs : RW wr (n + 2) L 68
theorem OW.set {n : Nat} {w wr : World} {s L : List Nat} (h : OW n w s L wr) (i v : Nat) : OW n w s (L.set i v) (wr.setCell ⟨n + 2, i, none⟩ (.int .u32 (v : Int))) :=
  ⟨h.old.setCell (by simp) _, by simpa using h.sz, h.hp.other (by omega) _ _, h.hr.other (by omega) _ _, h.hs.set _ _⟩
theorem OW.drew {n : Nat} {w wr : World} {s L : List Nat} (h : OW n w s L wr) : OW n w s L wr.drew := ⟨h.old.drew, h.sz, h.hp, h.hr, h.hs⟩
theorem OW.but {n : Nat} {w wr w' : World} {s L M : List Nat} (h : OW n w s L wr) (hb : But (fun k => k = n + 2) wr w') (hm : RW w' (n + 2) M 68) : OW n w s M w' :=
  ⟨h.old.trans (hb.below (fun k hk => by omega)), by rw [hb.size]; exact h.sz, h.hp.but hb (by omega), h.hr.but hb (by omega), hm⟩
theorem ow_start (w : World) (s : List Nat) : OW w.heap.size w s s (((w.alloc (.cells (VN .u32 s) 68)).alloc (.cells (VN .u32 (List.replicate 16 0)) 68)).alloc (.cells (VN .u32 s) 68)) := by
  refine ⟨(((Below.refl _ _).alloc (Nat.le_refl _) _).alloc (by simp) _).alloc (by simp; omega) _, by simp [size_alloc], ?_, ?_, ?_⟩
  all_goals simp only [RW, heap_alloc_any, size_alloc]
  · rw [if_neg (by omega), if_neg (by omega), if_pos trivial]
  · rw [if_neg (by omega), if_pos trivial]
  · rw [if_pos trivial]
theorem take_addD (a b : List Nat) (k : Nat) (h1 : k < a.length) (h2 : k < b.length) (h : a.length = b.length) : ((List.zipWith ad a b).take k ++ a.drop k).set k (ad (a.getD k 0) (b.getD k 0)) = (List.zipWith ad a b).take (k + 1) ++ a.drop (k + 1) := by
  apply List.ext_getElem?
  intro i
  simp only [List.getD, List.getElem?_eq_getElem h1, List.getElem?_eq_getElem h2, Option.getD_some]
  rcases Nat.lt_trichotomy i k with hi | hi | hi
  · rw [List.getElem?_set_ne (by omega), List.getElem?_append_left (by simp; omega), List.getElem?_append_left (by simp; omega), List.getElem?_take_of_lt (by omega), List.getElem?_take_of_lt (by omega)]
  · subst hi
    rw [List.getElem?_set_self (by simp; omega), List.getElem?_append_left (by simp; omega), List.getElem?_take_of_lt (by omega), List.getElem?_zipWith]
    simp [List.getElem?_eq_getElem h1, List.getElem?_eq_getElem h2]
  · rw [List.getElem?_set_ne (by omega), List.getElem?_append_right (by simp; omega), List.getElem?_append_right (by simp; omega)]
    simp
    congr 1
    omega
theorem take_addG (a b : List Nat) (k : Nat) (h1 : k < a.length) (h : a.length = b.length) : ((List.zipWith ad a b).take k ++ a.drop k).getD k 0 = a.getD k 0 := by
  simp only [List.getD]
  rw [List.getElem?_append_right (by simp; omega)]
  simp
  congr 2
  omega
set_option maxRecDepth 100000 in
set_option maxHeartbeats 4000000 in
theorem one_any (s : List Nat) (hs : St s) (w : World) :
    Calls Try.prog 40 #[.agg (VN .u32 s)] w fun e w' => e = .returned (.agg (VN .u32 (blk s))) ∧ Below w.heap.size w w' := by
  have hst := ow_start w s
  obtain ⟨n, hn⟩ : ∃ n, w.heap.size = n := ⟨_, rfl⟩
  obtain ⟨W0, hW0⟩ : ∃ W, (w.alloc (.cells (VN .u32 s) 68)).alloc (.cells (VN .u32 (List.replicate 16 0)) 68) = W := ⟨_, rfl⟩
  obtain ⟨W, hW⟩ : ∃ W, W0.alloc (.cells (VN .u32 s) 68) = W := ⟨_, rfl⟩
  rw [hW0, hW, hn] at hst
  have hW0' : (w.alloc (.cells (VN .u32 s) 68)).alloc (.cells #[.int .u32 0, .int .u32 0, .int .u32 0, .int .u32 0, .int .u32 0, .int .u32 0, .int .u32 0, .int .u32 0, .int .u32 0, .int .u32 0, .int .u32 0, .int .u32 0, .int .u32 0, .int .u32 0, .int .u32 0, .int .u32 0] 68) = W0 := hW0
  have HP0 : Hid (RW W0 n s 68) := by
    show RW W0 n s _
    rw [← hW0, ← hn]
    simp only [RW, heap_alloc_any, size_alloc]
    rw [if_neg (by omega), if_pos trivial]
  have HS0 : Hid (W0.heap.size = n + 2) := by
    show W0.heap.size = n + 2
    rw [← hW0, ← hn]; simp [size_alloc]
  have HST : Hid (OW n w s s W) := hst
  have HQ : Hid (∀ (L : List Nat) (wr : World) (i j k m : Nat), St L → OW n w s L wr → i < 16 → j < 16 → k < 16 → m < 16 → i ≠ j → i ≠ k → i ≠ m → j ≠ k → j ≠ m → k ≠ m → Calls Try.prog 47 #[.pointer (some ⟨n + 2, i, none⟩), .pointer (some ⟨n + 2, j, none⟩), .pointer (some ⟨n + 2, k, none⟩), .pointer (some ⟨n + 2, m, none⟩)] wr fun e w' => e = .returned (.tuple #[]) ∧ OW n w s (qat L i j k m) w') := by
    intro L wr i j k m hL h hi hj hk hm a b c d e f
    refine (quarter_any (n + 2) i j k m L 68 wr h.hs hL.bd (by rw [hL.len]; exact hi) (by rw [hL.len]; exact hj) (by rw [hL.len]; exact hk) (by rw [hL.len]; exact hm) a b c d e f).mono ?_
    rintro e w' ⟨he, h1, h2⟩
    exact ⟨he, h.but h1 h2⟩
  have HSS : Hid (St s) := hs
  have HIS : Hid ((Try.prog.info? 68).map (·.size) = some (VN .u32 s).size) := infoWs hs.len
  have HN : Hid (w.heap.size = n) := hn
  clear hst hs hW0
  go_enter Try.func40, Try.ntmps40
  go_wp2_with (with_reducible refine at_list ?_; first | (refine wpList_load_row rfl 68 (.tmp 1) rfl n rfl 68 (VN .u32 s) (0, 0) _ HP0.out Try.underlying68 rfl HIS.out ?_) | (refine hold_store 68 (.tmp 3) (.tmp 8) rfl ?_))
  refine store_row_new rfl 68 (.tmp 3) (.tmp 8) rfl W0.heap.size (VN .u32 s) rfl rfl rfl 68 (VN .u32 (List.replicate 16 0)) HIS.out (by rw [VN_size, VN_size, HSS.out.len, List.length_replicate]) (VN_one _ _) ?_
  rw [hW, HS0.out]
  go_wp2
  go_loopw [9] (fun v w' => ∃ r : Nat, r ≤ 10 ∧ v = .int .i64 r ∧ OW n w s (rnds r s) w') (fun v _ => 10 - (intOf v).toNat)
  case atStart => exact ⟨0, Nat.zero_le _, rfl, HST.out⟩
  case round =>
    clear HST hW hW0' HP0 HS0
    obtain ⟨r, hr, rfl, hp⟩ := hrel
    by_cases hlt : r < 10
    · have HP : Hid (OW n w s (cols 0 (rnds r s)) wr) := hp
      have HL : Hid (St (rnds r s)) := HSS.out.rnds r
      have HD : Hid (∀ w', OW n w s (dias 4 (cols 4 (rnds r s))) w' → OW n w s (rnds (r + 1) s) w') := fun _ h => h
      clear hp
      generalize rnds r s = t at *
      go_wp2
      go_loopw [11] (fun v w' => ∃ i : Nat, i ≤ 4 ∧ v = .int .i64 i ∧ OW n w s (cols i t) w') (fun v _ => 4 - (intOf v).toNat)
      case atStart => exact ⟨0, Nat.zero_le _, rfl, HP.out⟩
      case round =>
        clear HP
        obtain ⟨i, hi, rfl, hp⟩ := hrel
        by_cases hlt2 : i < 4
        · have HP : Hid (OW n w s (cols i t) wr) := hp
          have HQ1 : Hid (∀ wr, OW n w s (cols i t) wr → Calls Try.prog 47 #[.pointer (some ⟨n + 2, i, none⟩), .pointer (some ⟨n + 2, 4 + i, none⟩), .pointer (some ⟨n + 2, 8 + i, none⟩), .pointer (some ⟨n + 2, 12 + i, none⟩)] wr fun e w' => e = .returned (.tuple #[]) ∧ OW n w s (cols (i + 1) t) w') := fun wr h => HQ.out _ wr i (4 + i) (8 + i) (12 + i) (HL.out.cols i) h (by omega) (by omega) (by omega) (by omega) (by omega) (by omega) (by omega) (by omega) (by omega) (by omega)
          have HCx : Hid _ := HQ1.out wr.drew HP.out.drew
          have hi4 : Hid (i < 4) := hlt2
          clear hp HP HQ1
          go_upto_region 7 with fail
          refine wp_as (c' := rgOn7) (by kernel_rfl) ?_
          refine On7 (g := n + 2) (i := i) (R := fun w' => OW n w s (cols (i + 1) t) w') hi4 HCx (fun _ _ d _ _ h => by cases d <;> exact h) ?_
          intro w2 h2
          have H2 : Hid (OW n w s (cols (i + 1) t) w2) := h2
          clear h2 HCx
          go_wp2
          go_roundw
          case rel => exact ⟨i + 1, by omega, by go_num, H2.out⟩
          case measure => simp [intOf]; omega
        · have hi' : i = 4 := by omega
          subst hi'
          have HP : Hid (OW n w s (dias 0 (cols 4 t)) wr) := hp
          have HL4 : Hid (St (cols 4 t)) := HL.out.cols 4
          clear hp HL
          generalize cols 4 t = t4 at *
          go_wp2
          go_loopw [27] (fun v w' => ∃ i : Nat, i ≤ 4 ∧ v = .int .i64 i ∧ OW n w s (dias i t4) w') (fun v _ => 4 - (intOf v).toNat)
          case atStart => exact ⟨0, Nat.zero_le _, rfl, HP.out⟩
          case round =>
            clear HP
            obtain ⟨i, hi, rfl, hp⟩ := hrel
            by_cases hlt2 : i < 4
            · have HCx : Hid (Calls Try.prog 47 #[.pointer (some ⟨n + 2, i, none⟩), .pointer (some ⟨n + 2, 4 + (i + 1) % 4, none⟩), .pointer (some ⟨n + 2, 8 + (i + 2) % 4, none⟩), .pointer (some ⟨n + 2, 12 + (i + 3) % 4, none⟩)] wr.drew fun e w' => e = .returned (.tuple #[]) ∧ OW n w s (dias (i + 1) t4) w') := HQ.out _ wr.drew i (4 + (i + 1) % 4) (8 + (i + 2) % 4) (12 + (i + 3) % 4) (HL4.out.dias i) hp.drew (by omega) (by omega) (by omega) (by omega) (by omega) (by omega) (by omega) (by omega) (by omega) (by omega)
              have hi4 : Hid (i < 4) := hlt2
              clear hp
              go_upto_region 12 with fail
              refine wp_as (c' := rgOn12) (by kernel_rfl) ?_
              refine On12 (g := n + 2) (i := i) (R := fun w' => OW n w s (dias (i + 1) t4) w') hi4 HCx (fun _ _ d _ _ h => by cases d <;> exact h) ?_
              intro w2 h2
              have H2 : Hid (OW n w s (dias (i + 1) t4) w2) := h2
              clear h2 HCx
              go_wp2
              go_roundw
              case rel => exact ⟨i + 1, by omega, by go_num, H2.out⟩
              case measure => simp [intOf]; omega
            · have hi' : i = 4 := by omega
              subst hi'
              have H2 : Hid (OW n w s (rnds (r + 1) s) wr) := HD.out _ hp
              clear hp HD HL4
              go_wp2
              go_roundw
              case rel => exact ⟨r + 1, by omega, by go_num, H2.out⟩
              case measure => simp [intOf]; omega
    · have hr' : r = 10 := by omega
      subst hr'
      have sr := HSS.out.rnds 10
      have sb := HSS.out.blk
      have eb : blk s = List.zipWith ad (rnds 10 s) s := by unfold blk; rfl
      have ls := HSS.out.len
      obtain ⟨bs, hbs⟩ : ∃ x, blk s = x := ⟨_, rfl⟩
      rw [hbs] at sb eb
      have HEB : Hid (blk s = bs) := hbs
      clear hbs
      generalize rnds 10 s = rs at *
      have l10 := sr.len
      have HA : Hid (∀ k w', k < 16 → OW n w s (bs.take k ++ rs.drop k) w' → (rs.getD k 0 < 4294967296 ∧ w'.cell? ⟨n + 2, k, none⟩ = some (.int .u32 ((rs.getD k 0 : Nat) : Int)) ∧ w'.frozen? ⟨n + 2, k, none⟩ = false ∧ OW n w s (bs.take (k + 1) ++ rs.drop (k + 1)) (w'.setCell ⟨n + 2, k, none⟩ (.int .u32 ((ad (rs.getD k 0) (s.getD k 0) : Nat) : Int))))) := by
        intro k w' hk h
        have hset := h.set k (ad (rs.getD k 0) (s.getD k 0))
        have hc := h.hs.cell (i := k) (by simp [sb.len, l10]; omega)
        rw [eb, take_addD _ _ k (by omega) (by omega) (by omega), ← eb] at hset
        rw [eb, take_addG _ _ k (by omega) (by omega)] at hc
        exact ⟨sr.bd.at k, hc, h.hs.froz k, hset⟩
      have HP : Hid (OW n w s (bs.take 0 ++ rs.drop 0) wr) := hp
      have HX : Hid (∀ k, k < 16 → s.getD k 0 < 4294967296 ∧ (VN .u32 s)[k]? = some (.int .u32 ((s.getD k 0 : Nat) : Int))) := fun k hk => ⟨HSS.out.bd.at k, VN_at _ _ _ (by rw [HSS.out.len]; exact hk)⟩
      have HE : Hid (∀ w', OW n w s (bs.take 16 ++ rs.drop 16) w' → OW n w s bs w') := fun w' h => by
        rw [List.take_of_length_le (by rw [sb.len]; omega), List.drop_of_length_le (by rw [l10]; omega), List.append_nil] at h
        exact h
      have HIB : Hid ((Try.prog.info? 68).map (·.size) = some (VN .u32 bs).size) := infoWs sb.len
      have HSB : Hid ((VN .u32 (List.replicate 16 0)).size = (VN .u32 bs).size) := by
        have : (VN .u32 (List.replicate 16 0)).size = (VN .u32 bs).size := by rw [VN_size, VN_size, sb.len, List.length_replicate]
        exact this
      clear hp hlt hr HQ sr sb eb ls l10
      go_wp2_with (with_reducible refine at_list ?_; first | (refine wpList_load_row rfl 68 (.tmp 1) rfl n rfl 68 (VN .u32 s) (0, 0) _ HP.out.hp Try.underlying68 rfl HIS.out ?_))
      go_loopw [51] (fun v w' => ∃ k : Nat, k ≤ 16 ∧ v = .int .i64 k ∧ OW n w s (bs.take k ++ rs.drop k) w') (fun v _ => 16 - (intOf v).toNat)
      case atStart => exact ⟨0, Nat.zero_le _, rfl, HP.out⟩
      case round =>
        clear HP
        obtain ⟨k, hk, rfl, hp⟩ := hrel
        by_cases hlt : k < 16
        · obtain ⟨x1, c1, f1, h1⟩ := HA.out k _ hlt hp
          obtain ⟨y1, y2⟩ := HX.out k hlt
          have pa := wrap32 (rs.getD k 0) (s.getD k 0)
          generalize ad (rs.getD k 0) (s.getD k 0) = z at *
          generalize rs.getD k 0 = xr at *
          generalize hxs : s.getD k 0 = xs at *
          have H1 : Hid (OW n w s (bs.take (k + 1) ++ rs.drop (k + 1)) (wr.setCell ⟨n + 2, k, none⟩ (.int .u32 (z : Int)))) := h1
          clear h1 hp HA HX HE
          have b1 : (k : Int) < 16 := by omega
          have hix := run_index_vn wr 68 24 .u32 .i64 16 s k HSS.out.len hlt Try.underlying68 Try.underlying24 size_u32
          rw [hxs] at hix
          go_wp2
          go_roundw
          case rel => exact ⟨k + 1, by omega, by go_num, H1.out⟩
          case measure => simp [intOf]; omega
        · have hk' : k = 16 := by omega
          subst hk'
          have HP : Hid (OW n w s bs wr) := HE.out _ hp
          clear hp HA HX HE
          go_wp2_with (with_reducible refine at_list ?_; first | (refine wpList_load_row rfl 68 (.tmp 3) rfl (n + 2) rfl 68 (VN .u32 bs) (0, 0) _ HP.out.hs Try.underlying68 rfl HIB.out ?_) | (refine wpList_store_row rfl 68 (.tmp 2) (.tmp 62) rfl (n + 1) (VN .u32 bs) rfl rfl 68 (VN .u32 (List.replicate 16 0)) HP.out.hr HIB.out HSB.out (VN_one _ _) ?_))
          refine bodyPost_ret (v := .agg (VN .u32 bs)) ?_ rfl ⟨by rw [HEB.out], below_setRow (by rw [HN.out]; exact HP.out.old) _ (by rw [HN.out]; omega) _⟩
          exact results_cell_row (P := Try.prog) (fn := Try.f40) (p := 2) (ty := 68) rfl _ _ (n + 1) 68 (VN .u32 bs) (0, 0) _ rfl (setRow_heap _ _ _ _ 68 _ HP.out.hr) Try.underlying68 rfl HIB.out
end Go.Proofs.Ytefnlaookmpbhaa
