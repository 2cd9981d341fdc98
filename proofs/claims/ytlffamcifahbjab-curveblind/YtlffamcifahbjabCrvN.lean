import Derived.Test.YtlffamcifahbjabCrvP
namespace Go.Proofs.Ytlffamcifahbjab
set_option linter.unusedSimpArgs false
set_option linter.unusedVariables false
open Go.ChangeShapes Go.WideShapes Go.ChangeAt Go.RowKit Go.Pin Go.Fld
theorem wpList_load_row_g {P : Program} {ops : Array Oper} {rest : List Oper} {o : Oper} {a : Act} {w : World} {Q : Exit → Act → World → Prop} (hw : Region.wanted o (yielded ops a.tmps) = true) (ty : TypeId) (x : Operand) (ho : o.op = .load ty x)
    (g : Nat) (hx : a.eval x = .pointer (some ⟨g, 0, none⟩)) (t : TypeId) (cs : Array Value) (fr : Nat × Nat) (d : TypeDesc) (hg : w.heap[g]? = some (.cells cs t fr))
    (hu : P.underlying ty = some d) (hd : (match d with | .struct _ | .array _ _ => true | _ => false) = true) (hi : (P.info? ty).map (·.size) = some cs.size)
    (h : wpList P ops Q rest (a.put o.dst (.agg cs)) w) : wpList P ops Q (o :: rest) a w := by
  unfold wpList
  rw [if_pos hw]
  exact .inl (wp_load_row ty x ho g hx t cs fr d hg hu hd hi h)
theorem v_total {B : Nat} {w : World} {R : Nat} {l : List (Int × Int)} {bx : List (Nat × Obj)} {wr : World} (h : Ev B w (.pointer (some ⟨R, 0, none⟩)) l bx wr) : Calls Try.prog 11 #[.pointer (some ⟨R, 0, none⟩)] wr fun e w' => e = .returned (.int .i64 l.length) ∧ w' = wr := by
  rcases h.rc with e | ⟨R', vs, e, h2, h3⟩
  · cases e
  · injection e with e; injection e with e; injection e with e1; subst e1
    exact total_any _ vs l wr h2.opt
set_option maxRecDepth 100000 in
set_option maxHeartbeats 8000000 in
theorem known_any (w : World) : Calls Try.prog 6 #[] w fun e w' => e = .returned (.bool true) ∧ Below w.heap.size w w' := by
  have hE := ev_new w
  obtain ⟨n, hn⟩ : ∃ n, w.heap.size = n := ⟨_, rfl⟩
  obtain ⟨W0, hW⟩ : ∃ W, w.alloc (.cells #[.slice none 0 0, .int .i64 0] 55) = W := ⟨_, rfl⟩
  rw [hW] at hE
  rw [hn] at hE
  have CN : Hid (Calls Try.prog 7 #[] w fun e w' => e = .returned (.pointer (some ⟨n, 0, none⟩)) ∧ w' = W0) := by
    have := new_any w
    rw [hn, hW] at this
    exact this
  have X0 : Hid (Ev n w (.pointer (some ⟨n, 0, none⟩)) [] [] W0) := hE
  have CP : Hid (∀ l bx wr, Ev n w (.pointer (some ⟨n, 0, none⟩)) l bx wr → l.length ≤ 700000 → Calls Try.prog 19 #[.pointer (some ⟨n, 0, none⟩), .agg #[.int .u8 0, .int .u8 0, .int .u8 0, .int .u8 0, .int .u8 0, .int .u8 0, .int .u8 0, .int .u8 0, .int .u8 0, .int .u8 0, .int .u8 0, .int .u8 0, .int .u8 0, .int .u8 0, .int .u8 0, .int .u8 0, .int .u8 0, .int .u8 0, .int .u8 0, .int .u8 0, .int .u8 0, .int .u8 0, .int .u8 0, .int .u8 0, .int .u8 0, .int .u8 0, .int .u8 0, .int .u8 0, .int .u8 0, .int .u8 0, .int .u8 0, .int .u8 0]] wr fun e w' => e = .returned (.agg (VI .u8 (bts (shn (kk 0) (kk 9))))) ∧ Ev n w (.pointer (some ⟨n, 0, none⟩)) (l ++ shlog) bx w') := fun l bx wr h hl => public_any h hl (kk_key 0 (by decide) (by decide))
  have CS : Hid (∀ l bx wr, Ev n w (.pointer (some ⟨n, 0, none⟩)) l bx wr → l.length ≤ 700000 → Calls Try.prog 5 #[.pointer (some ⟨n, 0, none⟩), .agg #[.int .u8 5, .int .u8 0, .int .u8 0, .int .u8 0, .int .u8 0, .int .u8 0, .int .u8 0, .int .u8 0, .int .u8 0, .int .u8 0, .int .u8 0, .int .u8 0, .int .u8 0, .int .u8 0, .int .u8 0, .int .u8 0, .int .u8 0, .int .u8 0, .int .u8 0, .int .u8 0, .int .u8 0, .int .u8 0, .int .u8 0, .int .u8 0, .int .u8 0, .int .u8 0, .int .u8 0, .int .u8 0, .int .u8 0, .int .u8 0, .int .u8 0, .int .u8 0], .agg #[.int .u8 1, .int .u8 0, .int .u8 0, .int .u8 0, .int .u8 0, .int .u8 0, .int .u8 0, .int .u8 0, .int .u8 0, .int .u8 0, .int .u8 0, .int .u8 0, .int .u8 0, .int .u8 0, .int .u8 0, .int .u8 0, .int .u8 0, .int .u8 0, .int .u8 0, .int .u8 0, .int .u8 0, .int .u8 0, .int .u8 0, .int .u8 0, .int .u8 0, .int .u8 0, .int .u8 0, .int .u8 0, .int .u8 0, .int .u8 0, .int .u8 0, .int .u8 0]] wr fun e w' => e = .returned (.agg (VI .u8 (kk 0))) ∧ Ev n w (.pointer (some ⟨n, 0, none⟩)) (l ++ shlog) bx w') := fun l bx wr h hl => (shared_any h hl (kk_key 5 (by decide) (by decide)) (kk_key 1 (by decide) (by decide))).mono fun e w' hh => ⟨by rw [hh.1, known_b], hh.2⟩
  have CC : Hid (∀ w, Calls Try.prog 12 #[.agg #[.int .u8 7, .int .u8 0, .int .u8 0, .int .u8 0, .int .u8 0, .int .u8 0, .int .u8 0, .int .u8 0, .int .u8 0, .int .u8 0, .int .u8 0, .int .u8 0, .int .u8 0, .int .u8 0, .int .u8 0, .int .u8 0, .int .u8 0, .int .u8 0, .int .u8 0, .int .u8 0, .int .u8 0, .int .u8 0, .int .u8 0, .int .u8 0, .int .u8 0, .int .u8 0, .int .u8 0, .int .u8 0, .int .u8 0, .int .u8 0, .int .u8 0, .int .u8 0]] w fun e w' => e = .returned (.agg (VI .u8 ((kk 0).set 31 64))) ∧ Below w.heap.size w w') := fun w => (clamp_any (kk 7) (kk_key 7 (by decide) (by decide)) w).mono fun e w' hh => ⟨by rw [hh.1, known_c], hh.2⟩
  have Q0 : ∀ w, (Op.equalIn 10000 23 (.agg (VI .u8 (kk 0))) (.agg #[.int .u8 0, .int .u8 0, .int .u8 0, .int .u8 0, .int .u8 0, .int .u8 0, .int .u8 0, .int .u8 0, .int .u8 0, .int .u8 0, .int .u8 0, .int .u8 0, .int .u8 0, .int .u8 0, .int .u8 0, .int .u8 0, .int .u8 0, .int .u8 0, .int .u8 0, .int .u8 0, .int .u8 0, .int .u8 0, .int .u8 0, .int .u8 0, .int .u8 0, .int .u8 0, .int .u8 0, .int .u8 0, .int .u8 0, .int .u8 0, .int .u8 0, .int .u8 0])).run Try.prog w = .ok true w := fun w => (run_equalIn_row w 9998 23 5 .u8 32 (kk 0) (kk 0) rfl rfl Try.underlying23 Try.underlying5 size5).trans (by rw [beq_self_eq_true])
  have Q1 : ∀ w, (Op.equalIn 10000 23 (.agg (VI .u8 ((kk 0).set 31 64))) (.agg #[.int .u8 0, .int .u8 0, .int .u8 0, .int .u8 0, .int .u8 0, .int .u8 0, .int .u8 0, .int .u8 0, .int .u8 0, .int .u8 0, .int .u8 0, .int .u8 0, .int .u8 0, .int .u8 0, .int .u8 0, .int .u8 0, .int .u8 0, .int .u8 0, .int .u8 0, .int .u8 0, .int .u8 0, .int .u8 0, .int .u8 0, .int .u8 0, .int .u8 0, .int .u8 0, .int .u8 0, .int .u8 0, .int .u8 0, .int .u8 0, .int .u8 0, .int .u8 64])).run Try.prog w = .ok true w := fun w => (run_equalIn_row w 9998 23 5 .u8 32 ((kk 0).set 31 64) ((kk 0).set 31 64) rfl rfl Try.underlying23 Try.underlying5 size5).trans (by rw [beq_self_eq_true])
  obtain ⟨k0, k1, k31⟩ := known_a
  have KA : Hid _ := k0
  have KB : Hid _ := k1
  have KD : Hid _ := k31
  clear hE hW k0 k1 k31
  obtain ⟨z, hz⟩ : ∃ z, bts (shn (kk 0) (kk 9)) = z := ⟨_, rfl⟩
  have LZ : Hid (z.length = 32) := hz ▸ bts_len _
  rw [hz] at CP KA KB KD
  clear hz
  go_enter Try.func6, Try.ntmps6
  go_wp2_with fail
  refine CN.out.mono ?_
  rintro e W1 ⟨rfl, rfl⟩
  go_wp2_with fail
  refine (CP.out _ _ _ X0.out (by decide)).mono ?_
  rintro e W2 ⟨rfl, hN⟩
  have X2 : Hid _ := hN
  clear hN X0 CN
  go_wp2_with (with_reducible refine at_list ?_; refine hold_store 23 (.tmp 2) (.tmp 7) rfl ?_)
  refine store_row_new rfl 23 (.tmp 2) (.tmp 7) rfl W2.heap.size (VI .u8 z) rfl rfl rfl 23 (VI .u8 (List.replicate 32 0)) (infoK LZ.out) (by simp [LZ.out]) (VI_one _ _) ?_
  have hN := X2.out.new (bxK z)
  obtain ⟨W3, hW⟩ : ∃ W, W2.alloc (bxK z) = W := ⟨_, rfl⟩
  rw [hW] at hN
  rw [show W2.alloc (.cells (VI .u8 z) 23) = W3 from hW]
  obtain ⟨gu, hg⟩ : ∃ g, W2.heap.size = g := ⟨_, rfl⟩
  rw [hg] at hN
  try simp only [hg]
  clear hg hW
  have X3 : Hid (Ev n w (.pointer (some ⟨n, 0, none⟩)) ([] ++ shlog) [(gu, bxK z)] W3) := hN
  clear hN X2
  go_wp2_with fail
  refine (CS.out _ _ _ X3.out (by rw [List.nil_append, shlog_len]; decide)).mono ?_
  rintro e W4 ⟨rfl, hN⟩
  have X4 : Hid _ := hN
  clear hN X3
  go_wp2_with (with_reducible refine at_list ?_; refine hold_store 23 (.tmp 3) (.tmp 11) rfl ?_)
  refine store_row_new rfl 23 (.tmp 3) (.tmp 11) rfl W4.heap.size (VI .u8 (kk 0)) rfl rfl rfl 23 (VI .u8 (List.replicate 32 0)) (infoK rfl) rfl (VI_one _ _) ?_
  have hN := X4.out.new (bxK (kk 0))
  obtain ⟨W5, hW⟩ : ∃ W, W4.alloc (bxK (kk 0)) = W := ⟨_, rfl⟩
  rw [hW] at hN
  rw [show W4.alloc (.cells (VI .u8 (kk 0)) 23) = W5 from hW]
  obtain ⟨gz, hg⟩ : ∃ g, W4.heap.size = g := ⟨_, rfl⟩
  rw [hg] at hN
  try simp only [hg]
  clear hg hW
  have X5 : Hid (Ev n w (.pointer (some ⟨n, 0, none⟩)) (([] ++ shlog) ++ shlog) [(gz, bxK (kk 0)), (gu, bxK z)] W5) := hN
  clear hN X4
  have d0 : W5.cell? ⟨gu, 0, none⟩ = some (.int .u8 47) := by have := rowB_cell (X5.out.row (g := gu) (x := bxK z) (by simp)) (i := 0) (by rw [LZ.out]; decide); rw [KA.out] at this; exact this
  have d1 : W5.cell? ⟨gu, 1, none⟩ = some (.int .u8 229) := by have := rowB_cell (X5.out.row (g := gu) (x := bxK z) (by simp)) (i := 1) (by rw [LZ.out]; decide); rw [KB.out] at this; exact this
  have d31 : W5.cell? ⟨gu, 31, none⟩ = some (.int .u8 116) := by have := rowB_cell (X5.out.row (g := gu) (x := bxK z) (by simp)) (i := 31) (by rw [LZ.out]; decide); rw [KD.out] at this; exact this
  go_wp2_with (with_reducible refine at_list ?_; first | (refine wpList_load_row_g (by kernel_rfl) 23 (.tmp 3) rfl gz rfl 23 (VI .u8 (kk 0)) (0, 0) _ (X5.out.row (g := gz) (x := bxK (kk 0)) (by simp)) Try.underlying23 rfl (infoK rfl) ?_))
  refine (CC.out _).mono ?_
  rintro e W6 ⟨rfl, hb⟩
  have X6 : Hid _ := X5.out.below hb
  clear hb X5 d0 d1 d31
  go_wp2_with fail
  refine (v_total X6.out).mono ?_
  rintro e W7 ⟨rfl, hw⟩
  obtain rfl := hw
  have ht : ((([] ++ shlog) ++ shlog).length : Int) = 10208 := by rw [List.nil_append, List.length_append, shlog_len]; rfl
  go_wp2
  go_ret
  exact ⟨rfl, by rw [hn]; exact X6.out.old⟩
end Go.Proofs.Ytlffamcifahbjab
