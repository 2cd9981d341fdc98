import Derived.Test.YteimmjdiaophoaaFldDec5
namespace Go.Proofs.Yteimmjdiaophoaa
set_option linter.unusedSimpArgs false
open Go.ChangeShapes Go.WideShapes Go.ChangeAt Go.RowKit Go.Pin Go.Fld
set_option maxRecDepth 100000 in
set_option maxHeartbeats 20000000 in
theorem dec_walk (x : List Int) (hx : Key32 x) (w : World) :
    Calls Try.prog 5 #[.agg (VI .u8 x)] w fun e w' => e = .returned (.bool true) ∧ Below w.heap.size w w' := by
  have HX : Hid (Key32 x) := hx
  have HT : Hid (Key32 (flip x)) := flip_key hx
  obtain ⟨m, hm⟩ : ∃ m, nb x % 2 ^ 255 % P = m := ⟨_, rfl⟩
  have hmP : m < P := by rw [← hm]; exact Nat.mod_lt _ (by decide)
  obtain ⟨a0, a1, a2, a3, a4, la, na, CDa⟩ := dec_f hx
  obtain ⟨b0, b1, b2, b3, b4, lb, nb', CDt⟩ := dec_f (flip_key hx)
  rw [hm] at na
  rw [flip_nb hx, hm] at nb'
  have kM : Key32 (bts m) := ⟨bts_len m, bts_bd m⟩
  obtain ⟨d0, d1, d2, d3, d4, ld, nd, CDm⟩ := dec_f kM
  rw [nb_bts m (Nat.lt_trans hmP (by decide)), Nat.mod_eq_of_lt (Nat.lt_trans hmP (by decide)), Nat.mod_eq_of_lt hmP] at nd
  have CEa := encs_f la m na
  have CEb := encs_f lb m nb'
  have CEd := encs_f ld m nd
  have KM : Hid (Key32 (bts m)) := kM
  have CR : Hid (∀ w, Calls Try.prog 17 #[.agg (VI .u8 x)] w fun e w' => e = .returned (.agg (VI .i64 (dg m))) ∧ Below w.heap.size w w') := fun w => by
    have := rdecode_any x hx w
    rw [hm] at this
    exact this
  have CQ : Hid (∀ w, Calls Try.prog 16 #[.agg (VI .i64 (dg m))] w fun e w' => e = .returned (.agg (VI .u8 (bts m))) ∧ Below w.heap.size w w') := fun w => rencode_any m w
  have h31 := want31 m hmP
  have h31' := (bts_bd m _ (getD_mem (t := bts m) (i := 31) (by simp))).1
  have hq := fun w => run_equalIn_row (P := Try.prog) w 9998 40 5 .u8 32 (bts m) (bts m) (by simp) (by simp) Try.underlying40 Try.underlying5 size5
  simp only [beq_self_eq_true] at hq
  obtain ⟨v31, hv31⟩ : ∃ v, (bts m).getD 31 0 = v := ⟨_, rfl⟩
  rw [hv31] at h31 h31'
  have HV31 : Hid ((bts m).getD 31 0 = v31) := hv31
  obtain ⟨x31, hx31⟩ : ∃ v, x.getD 31 0 = v := ⟨_, rfl⟩
  have HX31 : Hid (x.getD 31 0 = x31) := hx31
  have HQ : Hid (∀ w, (Op.equalIn 10000 40 (.agg (VI .u8 (bts m))) (.agg (VI .u8 (bts m)))).run Try.prog w = .ok true w) := hq
  obtain ⟨y0, z0⟩ := hx.bd _ (getD_mem (t := x) (i := 0) (by rw [hx.len]; decide))
  obtain ⟨xl, hxl⟩ := Int.eq_ofNat_of_zero_le y0
  have HX0 : Hid (x.getD 0 0 = (xl : Int)) := hxl
  rw [hxl] at z0
  have hl19 : xl % 19 < 19 := Nat.mod_lt _ (by decide)
  obtain ⟨lo, hlo⟩ : ∃ lo, xl % 19 = lo := ⟨_, rfl⟩
  have hlo' : (xl : Int) % 19 = (lo : Int) := by omega
  rw [hlo] at hl19
  clear hlo
  obtain ⟨pf1, pf2⟩ := pl_facts lo hl19
  obtain ⟨p0, p1, p2, p3, p4, lp, np, CDp⟩ := dec_f (pl_key lo hl19)
  rw [pf1] at np
  have CEp := encs_f lp lo np
  rw [pf2] at CEp
  have HPK : Hid (Key32 (pl (lo : Int))) := pl_key lo hl19
  have hq2 := fun w => run_equalIn_row (P := Try.prog) w 9998 40 5 .u8 32 (kk (lo : Int)) (kk (lo : Int)) rfl rfl Try.underlying40 Try.underlying5 size5
  simp only [beq_self_eq_true] at hq2
  have HQ2 : Hid (∀ w, (Op.equalIn 10000 40 (.agg (VI .u8 (kk (lo : Int)))) (.agg (VI .u8 (kk (lo : Int))))).run Try.prog w = .ok true w) := hq2
  have X0 : Hid (Bs w [(w.heap.size, x)] [] (w.alloc (.cells (VI .u8 x) 40))) := bs_start1 w x
  obtain ⟨W0, hW0⟩ : ∃ W, w.alloc (.cells (VI .u8 x) 40) = W := ⟨_, rfl⟩
  rw [hW0] at X0
  clear la lb ld lp na nb' nd np hm hmP hq hq2 hv31 hx31 hxl pf1 pf2 kM hx y0
  go_enter Try.func5, Try.ntmps5
  go_wp2_with (with_reducible refine at_list ?_; refine wpList_load_row rfl 40 (.tmp 1) rfl w.heap.size rfl 40 (VI .u8 x) (0, 0) _ (X0.out.key (g := w.heap.size) (x := x) (by simp)) Try.underlying40 rfl HX.out.info ?_)
  refine (CR.out _).mono ?_
  rintro e W1 ⟨rfl, hb⟩
  have X1 : Hid (Bs w [(w.heap.size, x)] [] W1) := X0.out.below hb
  clear hb X0 hW0
  go_wp2_with (fail)
  refine (CQ.out _).mono ?_
  rintro e W2 ⟨rfl, hb⟩
  have X2 : Hid (Bs w [(w.heap.size, x)] [] W2) := X1.out.below hb
  clear hb X1
  go_wp2_with (with_reducible refine at_list ?_; refine hold_store 40 (.tmp 3) (.tmp 11) rfl ?_)
  refine store_row_new rfl 40 (.tmp 3) (.tmp 11) rfl W2.heap.size (VI .u8 (bts m)) rfl rfl rfl 40 (VI .u8 (List.replicate 32 0)) KM.out.info rfl (VI_one _ _) ?_
  have hN := X2.out.newk (bts m)
  have ho : w.heap.size < W2.heap.size := X2.out.ltk (g := w.heap.size) (x := x) (by simp)
  obtain ⟨W3, hW3⟩ : ∃ W, W2.alloc (.cells (VI .u8 (bts m)) 40) = W := ⟨_, rfl⟩
  rw [hW3] at hN ⊢
  clear hW3 X2
  obtain ⟨g3, hg⟩ : ∃ g, W2.heap.size = g := ⟨_, rfl⟩
  rw [hg] at hN ho
  try simp only [hg]
  clear hg
  have X3 : Hid (Bs w [(g3, bts m), (w.heap.size, x)] [] W3) := hN
  have O3 : Hid (w.heap.size < g3) := ho
  clear hN ho
  go_wp2_with (with_reducible refine at_list ?_; refine wpList_load_row rfl 40 (.tmp 1) rfl w.heap.size rfl 40 (VI .u8 x) (0, 0) _ (X3.out.key (g := w.heap.size) (x := x) (by simp)) Try.underlying40 rfl HX.out.info ?_)
  refine (CDa.out _).mono ?_
  rintro e W4 ⟨rfl, hb⟩
  have X4 : Hid (Bs w [(g3, bts m), (w.heap.size, x)] [] W4) := X3.out.below hb
  clear hb X3
  go_wp2_with (with_reducible refine at_list ?_; refine hold_load 40 (.tmp 1) rfl ?_)
  have hN := X4.out.new [a0, a1, a2, a3, a4]
  have ho1 : w.heap.size < W4.heap.size := X4.out.ltk (g := w.heap.size) (x := x) (by simp)
  have ho2 : g3 < W4.heap.size := X4.out.ltk (g := g3) (x := bts m) (by simp)
  obtain ⟨W5, hW5⟩ : ∃ W, W4.alloc (.cells #[.int .u64 a0, .int .u64 a1, .int .u64 a2, .int .u64 a3, .int .u64 a4] 27) = W := ⟨_, rfl⟩
  rw [show W4.alloc (.cells (VI .u64 [a0, a1, a2, a3, a4]) 27) = W5 from hW5] at hN
  rw [hW5]
  clear hW5 X4
  obtain ⟨g4, hg⟩ : ∃ g, W4.heap.size = g := ⟨_, rfl⟩
  rw [hg] at hN ho1 ho2
  simp only [hg]
  clear hg
  have X5 : Hid (Bs w [(g3, bts m), (w.heap.size, x)] [(g4, [a0, a1, a2, a3, a4])] W5) := hN
  have O4 : Hid (w.heap.size < g4 ∧ g3 < g4) := ⟨ho1, ho2⟩
  clear hN ho1 ho2
  refine wpList_load_row rfl 40 (.tmp 1) rfl w.heap.size rfl 40 (VI .u8 x) (0, 0) _ (X5.out.key (g := w.heap.size) (x := x) (by simp)) Try.underlying40 rfl HX.out.info ?_
  go_wp2_with (with_reducible refine at_list ?_; refine hold_store 40 (.tmp 5) (.tmp 14) rfl ?_)
  refine store_row_new rfl 40 (.tmp 5) (.tmp 14) rfl W5.heap.size (VI .u8 x) rfl rfl rfl 40 (VI .u8 (List.replicate 32 0)) HX.out.info (by rw [VI_size, VI_size, HX.out.len]; rfl) (VI_one _ _) ?_
  have hN := X5.out.newk x
  have ho1 : w.heap.size < W5.heap.size := X5.out.ltk (g := w.heap.size) (x := x) (by simp)
  have ho2 : g3 < W5.heap.size := X5.out.ltk (g := g3) (x := bts m) (by simp)
  have ho3 : g4 < W5.heap.size := X5.out.lt (g := g4) (x := [a0, a1, a2, a3, a4]) (by simp)
  obtain ⟨W6, hW6⟩ : ∃ W, W5.alloc (.cells (VI .u8 x) 40) = W := ⟨_, rfl⟩
  rw [hW6] at hN ⊢
  clear hW6 X5
  obtain ⟨g5, hg⟩ : ∃ g, W5.heap.size = g := ⟨_, rfl⟩
  rw [hg] at hN ho1 ho2 ho3
  simp only [hg]
  clear hg
  have hcx := rowB_cell (hN.key (g := g5) (x := x) (by simp)) (i := 31) (by rw [HX.out.len]; decide)
  rw [HX31.out] at hcx
  have hfx : W6.frozen? ⟨g5, 31, none⟩ = false := frozen_of_row W6 _ _ _ _ (hN.key (g := g5) (x := x) (by simp))
  have hS := hN.setk (by omega) (by simp only [List.mem_cons, List.not_mem_nil, or_false, forall_eq_or_imp, forall_eq]; omega) (by simp only [List.mem_cons, List.not_mem_nil, or_false, forall_eq_or_imp, forall_eq]; omega) 31 (bits .xor .u8 x31 128)
  rw [show x.set 31 (bits .xor .u8 x31 128) = flip x by rw [flip, HX31.out]] at hS
  obtain ⟨W7, hW7⟩ : ∃ W, W6.setCell ⟨g5, 31, none⟩ (.int .u8 (bits .xor .u8 x31 128)) = W := ⟨_, rfl⟩
  rw [hW7] at hS
  have X7 : Hid (Bs w [(g5, flip x), (g3, bts m), (w.heap.size, x)] [(g4, [a0, a1, a2, a3, a4])] W7) := hS
  have O5 : Hid (w.heap.size < g5 ∧ g3 < g5 ∧ g4 < g5) := ⟨ho1, ho2, ho3⟩
  clear hS hN ho1 ho2 ho3
  go_wp2_with (fail)
  clear hcx hfx hW7
  have qg : decide (128 ≤ v31) = false := by simpa using h31
  refine wp_asD (c' := rgD5) (by kernel_rfl) ?_
  refine dec_r5 KM HT HV31 h31' h31 qg (X7.out.key (g := g3) (x := bts m) (by simp)) (X7.out.row (g := g4) (x := [a0, a1, a2, a3, a4]) (by simp)) (X7.out.key (g := g5) (x := flip x) (by simp)) CEa CDt CEb CDm CEd HQ.out ?_
  intro W8 hb
  have X8 : Hid (Bs w [(g5, flip x), (g3, bts m), (w.heap.size, x)] [(g4, [a0, a1, a2, a3, a4])] W8) := X7.out.below hb
  clear hb X7
  have hc0 := rowB_cell (X8.out.key (g := w.heap.size) (x := x) (by simp)) (i := 0) (by rw [HX.out.len]; decide)
  rw [HX0.out] at hc0
  go_wp2_with (fail)
  clear hc0
  have hN := X8.out.newk (List.replicate 32 0)
  have ho1 : w.heap.size < W8.heap.size := X8.out.ltk (g := w.heap.size) (x := x) (by simp)
  have ho2 : g3 < W8.heap.size := X8.out.ltk (g := g3) (x := bts m) (by simp)
  have ho3 : g4 < W8.heap.size := X8.out.lt (g := g4) (x := [a0, a1, a2, a3, a4]) (by simp)
  have ho4 : g5 < W8.heap.size := X8.out.ltk (g := g5) (x := flip x) (by simp)
  obtain ⟨W9, hW9⟩ : ∃ W, W8.alloc (.cells #[.int .u8 0, .int .u8 0, .int .u8 0, .int .u8 0, .int .u8 0, .int .u8 0, .int .u8 0, .int .u8 0, .int .u8 0, .int .u8 0, .int .u8 0, .int .u8 0, .int .u8 0, .int .u8 0, .int .u8 0, .int .u8 0, .int .u8 0, .int .u8 0, .int .u8 0, .int .u8 0, .int .u8 0, .int .u8 0, .int .u8 0, .int .u8 0, .int .u8 0, .int .u8 0, .int .u8 0, .int .u8 0, .int .u8 0, .int .u8 0, .int .u8 0, .int .u8 0] 40) = W := ⟨_, rfl⟩
  rw [show W8.alloc (.cells (VI .u8 (List.replicate 32 0)) 40) = W9 from hW9] at hN
  rw [hW9]
  clear hW9 X8
  obtain ⟨g7, hg⟩ : ∃ g, W8.heap.size = g := ⟨_, rfl⟩
  rw [hg] at hN ho1 ho2 ho3 ho4
  simp only [hg]
  clear hg
  have X9 : Hid (Bs w [(g7, (List.replicate 32 (255 : Int)).take 0 ++ (List.replicate 32 (0 : Int)).drop 0), (g5, flip x), (g3, bts m), (w.heap.size, x)] [(g4, [a0, a1, a2, a3, a4])] W9) := hN
  have O7 : Hid (w.heap.size < g7 ∧ g3 < g7 ∧ g4 < g7 ∧ g5 < g7) := ⟨ho1, ho2, ho3, ho4⟩
  have SETK : Hid (∀ (l : List Int) W i v, Bs w [(g7, l), (g5, flip x), (g3, bts m), (w.heap.size, x)] [(g4, [a0, a1, a2, a3, a4])] W → Bs w [(g7, l.set i v), (g5, flip x), (g3, bts m), (w.heap.size, x)] [(g4, [a0, a1, a2, a3, a4])] (W.setCell ⟨g7, i, none⟩ (.int .u8 v))) := fun l W i v h =>
    h.setk (by omega) (by simp only [List.mem_cons, List.not_mem_nil, or_false, forall_eq_or_imp, forall_eq]; omega) (by simp only [List.mem_cons, List.not_mem_nil, or_false, forall_eq_or_imp, forall_eq]; omega) i v
  clear hN ho1 ho2 ho3 ho4
  go_loopw [8] (fun i w' => ∃ k : Nat, k ≤ 32 ∧ i = .int .i64 k ∧ Bs w [(g7, (List.replicate 32 (255 : Int)).take k ++ (List.replicate 32 (0 : Int)).drop k), (g5, flip x), (g3, bts m), (w.heap.size, x)] [(g4, [a0, a1, a2, a3, a4])] w') (fun i _ => 32 - (intOf i).toNat)
  case atStart => exact ⟨0, Nat.zero_le _, rfl, X9.out⟩
  case round =>
    clear X9
    obtain ⟨k, hk, rfl, hp⟩ := hrel
    by_cases hlt : k < 32
    · have es := set_stepD (List.replicate 32 (255 : Int)) (List.replicate 32 (0 : Int)) k (by simpa using hlt) (by simpa using hlt)
      have e255 : (List.replicate 32 (255 : Int)).getD k 0 = 255 := by rw [List.getD_eq_getElem?_getD, List.getElem?_replicate, if_pos hlt]; rfl
      rw [e255] at es
      have hst := SETK.out _ _ k 255 hp
      rw [es] at hst
      have hrow : rowB wr g7 ((List.replicate 32 (255 : Int)).take k ++ (List.replicate 32 (0 : Int)).drop k) 40 := hp.keys (g7, _) (List.mem_cons_self ..)
      have hcl := rowB_cell hrow (i := k) (by rw [List.length_append, List.length_take, List.length_drop, List.length_replicate, List.length_replicate]; omega)
      have hfz : wr.frozen? ⟨g7, k, none⟩ = false := frozen_of_row wr _ _ _ _ hrow
      clear hrow
      have HST : Hid (Bs w [(g7, (List.replicate 32 (255 : Int)).take (k + 1) ++ (List.replicate 32 (0 : Int)).drop (k + 1)), (g5, flip x), (g3, bts m), (w.heap.size, x)] [(g4, [a0, a1, a2, a3, a4])] (wr.setCell ⟨g7, k, none⟩ (.int .u8 255))) := hst
      clear hst hp es e255
      generalize List.getD _ k 0 = z at hcl
      go_wp2
      go_roundw
      case rel => exact ⟨k + 1, by omega, by go_num, HST.out⟩
      case measure => simp [intOf]; omega
    · have hk' : k = 32 := by omega
      subst hk'
      rw [List.take_of_length_le (by simp), List.drop_of_length_le (by simp), List.append_nil] at hp
      have hc0 := rowB_cell (hp.key (g := g7) (x := List.replicate 32 255) (by simp)) (i := 0) (by simp)
      have hc31 := rowB_cell (hp.key (g := g7) (x := List.replicate 32 255) (by simp)) (i := 31) (by simp)
      have hf0 : wr.frozen? ⟨g7, 0, none⟩ = false := frozen_of_row wr _ _ _ _ (hp.key (g := g7) (x := List.replicate 32 255) (by simp))
      have hf31 : wr.frozen? ⟨g7, 31, none⟩ = false := frozen_of_row wr _ _ _ _ (hp.key (g := g7) (x := List.replicate 32 255) (by simp))
      have hst := SETK.out _ _ 31 127 (SETK.out _ _ 0 (237 + (lo : Int)) hp)
      obtain ⟨Wb, hWb⟩ : ∃ W, (wr.setCell ⟨g7, 0, none⟩ (.int .u8 (237 + (lo : Int)))).setCell ⟨g7, 31, none⟩ (.int .u8 127) = W := ⟨_, rfl⟩
      rw [hWb] at hst
      have XB : Hid (Bs w [(g7, pl (lo : Int)), (g5, flip x), (g3, bts m), (w.heap.size, x)] [(g4, [a0, a1, a2, a3, a4])] Wb) := hst
      clear hst hp hlt hk
      generalize List.getD _ 0 0 = z0' at hc0
      generalize List.getD _ 31 0 = z31' at hc31
      go_wp2_with (with_reducible refine at_list ?_; refine wpList_load_row rfl 40 (.tmp 7) rfl g7 rfl 40 (VI .u8 (pl (lo : Int))) (0, 0) _ (XB.out.key (g := g7) (x := pl (lo : Int)) (by simp)) Try.underlying40 rfl HPK.out.info ?_)
      refine (CDp.out _).mono ?_
      rintro e Wc ⟨rfl, hb⟩
      have XC : Hid (Below w.heap.size w Wc) := XB.out.old.trans (hb.mono XB.out.old.size)
      clear hb XB
      go_wp2_with (fail)
      refine (CEp.out _).mono ?_
      rintro e Wd ⟨rfl, hb⟩
      have XD : Hid (Below w.heap.size w Wd) := XC.out.trans (hb.mono XC.out.size)
      clear hb XC
      have hq2 : ∀ w, (Op.equalIn 10000 40 (.agg (VI .u8 (kk (lo : Int)))) (.agg #[.int .u8 (lo : Int), .int .u8 0, .int .u8 0, .int .u8 0, .int .u8 0, .int .u8 0, .int .u8 0, .int .u8 0, .int .u8 0, .int .u8 0, .int .u8 0, .int .u8 0, .int .u8 0, .int .u8 0, .int .u8 0, .int .u8 0, .int .u8 0, .int .u8 0, .int .u8 0, .int .u8 0, .int .u8 0, .int .u8 0, .int .u8 0, .int .u8 0, .int .u8 0, .int .u8 0, .int .u8 0, .int .u8 0, .int .u8 0, .int .u8 0, .int .u8 0, .int .u8 0])).run Try.prog w = .ok true w := HQ2.out
      go_wp2_with (fail)
      refine (known_any _).mono ?_
      rintro e We ⟨rfl, hb⟩
      have XE : Hid (Below w.heap.size w We) := XD.out.trans (hb.mono XD.out.size)
      clear hb XD
      go_wp2
      go_ret
      exact ⟨rfl, XE.out⟩
end Go.Proofs.Yteimmjdiaophoaa
