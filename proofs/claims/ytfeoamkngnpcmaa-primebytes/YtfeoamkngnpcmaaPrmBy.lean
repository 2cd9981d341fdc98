import Derived.Test.YtfeoamkngnpcmaaPrmBy4
import Derived.Test.YtfeoamkngnpcmaaPrmBy5
namespace Go.Proofs.Ytfeoamkngnpcmaa
set_option linter.unusedSimpArgs false
set_option linter.unusedVariables false
open Go.ChangeShapes Go.WideShapes Go.ChangeAt Go.RowKit Go.Pin Go.Prm
theorem wpList_load_row_g {P : Program} {ops : Array Oper} {rest : List Oper} {o : Oper} {a : Act} {w : World} {Q : Exit → Act → World → Prop} (hw : Region.wanted o (yielded ops a.tmps) = true) (ty : TypeId) (x : Operand) (ho : o.op = .load ty x)
    (g : Nat) (hx : a.eval x = .pointer (some ⟨g, 0, none⟩)) (t : TypeId) (cs : Array Value) (fr : Nat × Nat) (d : TypeDesc) (hg : w.heap[g]? = some (.cells cs t fr))
    (hu : P.underlying ty = some d) (hd : (match d with | .struct _ | .array _ _ => true | _ => false) = true) (hi : (P.info? ty).map (·.size) = some cs.size)
    (h : wpList P ops Q rest (a.put o.dst (.agg cs)) w) : wpList P ops Q (o :: rest) a w := by
  unfold wpList
  rw [if_pos hw]
  exact .inl (wp_load_row ty x ho g hx t cs fr d hg hu hd hi h)
theorem below_is {b : List Int} (hb : Key17 b) {t : Bool} (h : decide (nb b < P) = t) (w : World) : Calls Try.prog 18 #[.agg (VI .u8 b)] w fun e w' => e = .returned (.bool t) ∧ Below w.heap.size w w' := by
  have := below_any b hb w
  rw [h] at this
  exact this
set_option maxRecDepth 100000 in
set_option maxHeartbeats 20000000 in
theorem byts_walk (x : List Int) (hx : Key17 x) (w : World) :
    Calls Try.prog 7 #[.agg (VI .u8 x)] w fun e w' => e = .returned (.bool true) ∧ Below w.heap.size w w' := by
  have HX : Hid (Key17 x) := hx
  have hs := bs_start1 w x
  obtain ⟨W0, hW0⟩ : ∃ W, w.alloc (.cells (VI .u8 x) 39) = W := ⟨_, rfl⟩
  rw [hW0] at hs
  have X0 : Hid (Bs w [(w.heap.size, x)] [] W0) := hs
  clear hs hx
  go_enter Try.func7, Try.ntmps7
  go_wp2_with (with_reducible refine at_list ?_; first | (refine wpList_load_row rfl 39 (.tmp 1) rfl (w.heap.size) rfl 39 (VI .u8 x) (0, 0) _ (X0.out.key (g := w.heap.size) (x := x) (by simp)) Try.underlying39 rfl (HX.out).info ?_))
  obtain ⟨e8x0, e8x1, e8x2, e8x3, e8x4, l8, n8, C8⟩ := block_f (b := x) HX.out
  have L8 : Hid (Lim [e8x0, e8x1, e8x2, e8x3, e8x4]) := l8
  have N8 : Hid _ := n8
  clear l8 n8
  refine (C8.out _).mono ?_
  rintro e W1 ⟨rfl, hb⟩
  have X1 : Hid (Bs w [(w.heap.size, x)] [] W1) := X0.out.below hb
  clear hb X0
  go_wp2_with (fail)
  obtain ⟨W2, hW⟩ : ∃ W, (W1.alloc (.cells #[.int .u64 e8x0, .int .u64 e8x1, .int .u64 e8x2, .int .u64 e8x3, .int .u64 e8x4] 29)) = W := ⟨_, rfl⟩
  have hN := (X1.out.new [e8x0, e8x1, e8x2, e8x3, e8x4])
  rw [show (W1.alloc (.cells (VI .u64 [e8x0, e8x1, e8x2, e8x3, e8x4]) 29)) = W2 from hW] at hN
  rw [hW]
  clear hW
  obtain ⟨g3, hg⟩ : ∃ g, W1.heap.size = g := ⟨_, rfl⟩
  rw [hg] at hN
  try simp only [hg]
  clear hg
  have X2 : Hid (Bs w [(w.heap.size, x)] [(g3, [e8x0, e8x1, e8x2, e8x3, e8x4])] W2) := hN
  clear hN X1
  obtain ⟨ka, hka⟩ : ∃ k, bts (num [e8x0, e8x1, e8x2, e8x3, e8x4]) = k := ⟨_, rfl⟩
  have C10 := bytes_f (L8.out) hka
  have lka : ka.length = 17 := by rw [← hka]; exact bts_len _
  have Qka : ∀ w, (Op.equalIn 10000 39 (.agg (VI .u8 ka)) (.agg (VI .u8 ka))).run Try.prog w = .ok true w := fun w => eq17t lka w
  have HQka : Hid (∀ w, (Op.equalIn 10000 39 (.agg (VI .u8 ka)) (.agg (VI .u8 ka))).run Try.prog w = .ok true w) := Qka
  have Kka : Hid (Key17 ka) := by rw [← hka]; exact bts_key _
  have Hka : Hid (bts (num [e8x0, e8x1, e8x2, e8x3, e8x4]) = ka) := hka
  clear hka lka Qka
  refine (C10.out _).mono ?_
  rintro e W3 ⟨rfl, hb⟩
  have X3 : Hid (Bs w [(w.heap.size, x)] [(g3, [e8x0, e8x1, e8x2, e8x3, e8x4])] W3) := X2.out.below hb
  clear hb X2
  go_wp2_with (with_reducible refine at_list ?_; refine hold_store 39 (.tmp 4) (.tmp 10) rfl ?_)
  refine store_row_new rfl 39 (.tmp 4) (.tmp 10) rfl W3.heap.size (VI .u8 ka) rfl rfl rfl 39 (VI .u8 (List.replicate 17 0)) (Kka.out).info (by rw [VI_size, VI_size, (Kka.out).len]; rfl) (VI_one _ _) ?_
  obtain ⟨W4, hW⟩ : ∃ W, (W3.alloc (.cells (VI .u8 ka) 39)) = W := ⟨_, rfl⟩
  have hN := (X3.out.newk ka)
  rw [show (W3.alloc (.cells (VI .u8 ka) 39)) = W4 from hW] at hN
  rw [hW]
  clear hW
  obtain ⟨g4, hg⟩ : ∃ g, W3.heap.size = g := ⟨_, rfl⟩
  rw [hg] at hN
  try simp only [hg]
  clear hg
  have X4 : Hid (Bs w [(g4, ka), (w.heap.size, x)] [(g3, [e8x0, e8x1, e8x2, e8x3, e8x4])] W4) := hN
  clear hN X3
  go_wp2_with (with_reducible refine at_list ?_; first | (refine wpList_load_row rfl 39 (.tmp 4) rfl (g4) rfl 39 (VI .u8 ka) (0, 0) _ (X4.out.key (g := g4) (x := ka) (by simp)) Try.underlying39 rfl (Kka.out).info ?_))
  obtain ⟨e12x0, e12x1, e12x2, e12x3, e12x4, l12, n12, C12⟩ := block_f (b := ka) Kka.out
  have L12 : Hid (Lim [e12x0, e12x1, e12x2, e12x3, e12x4]) := l12
  have N12 : Hid _ := n12
  clear l12 n12
  refine (C12.out _).mono ?_
  rintro e W5 ⟨rfl, hb⟩
  have X5 : Hid (Bs w [(g4, ka), (w.heap.size, x)] [(g3, [e8x0, e8x1, e8x2, e8x3, e8x4])] W5) := X4.out.below hb
  clear hb X4
  go_wp2_with (fail)
  obtain ⟨W6, hW⟩ : ∃ W, (W5.alloc (.cells #[.int .u64 e12x0, .int .u64 e12x1, .int .u64 e12x2, .int .u64 e12x3, .int .u64 e12x4] 29)) = W := ⟨_, rfl⟩
  have hN := (X5.out.new [e12x0, e12x1, e12x2, e12x3, e12x4])
  rw [show (W5.alloc (.cells (VI .u64 [e12x0, e12x1, e12x2, e12x3, e12x4]) 29)) = W6 from hW] at hN
  rw [hW]
  clear hW
  obtain ⟨g5, hg⟩ : ∃ g, W5.heap.size = g := ⟨_, rfl⟩
  rw [hg] at hN
  try simp only [hg]
  clear hg
  have X6 : Hid (Bs w [(g4, ka), (w.heap.size, x)] [(g5, [e12x0, e12x1, e12x2, e12x3, e12x4]), (g3, [e8x0, e8x1, e8x2, e8x3, e8x4])] W6) := hN
  clear hN X5
  have C14 := row_f 251 255 3
  obtain ⟨e15x0, e15x1, e15x2, e15x3, e15x4, l15, n15, C15⟩ := block_f (b := (rw17 251 255 3)) (rw17_key (by decide) (by decide) (by decide) (by decide) (by decide) (by decide))
  have L15 : Hid (Lim [e15x0, e15x1, e15x2, e15x3, e15x4]) := l15
  have N15 : Hid _ := n15
  clear l15 n15
  obtain ⟨e16x0, e16x1, e16x2, e16x3, e16x4, l16, n16, C16⟩ := add_f L8.out L15.out
  have L16 : Hid (Lim [e16x0, e16x1, e16x2, e16x3, e16x4]) := l16
  have N16 : Hid _ := n16
  clear l16 n16
  refine wp_as (c' := rgB4) (by kernel_rfl) ?_
  refine byts_r4  HX Kka C14 C15 C16 X6.out (fun _ _ d _ _ h => by cases d <;> exact h) ?_
  intro g6 W7 hN
  have X7 : Hid (Bs w [(g4, ka), (w.heap.size, x)] [(g6, [e16x0, e16x1, e16x2, e16x3, e16x4]), (g5, [e12x0, e12x1, e12x2, e12x3, e12x4]), (g3, [e8x0, e8x1, e8x2, e8x3, e8x4])] W7) := hN
  clear hN X6
  go_wp2_with (fail)
  have C18 : Hid (∀ w, Calls Try.prog 18 #[.agg (VI .u8 ka)] w fun e w' => e = .returned (.bool true) ∧ Below w.heap.size w w') := fun w => below_is Kka.out (by rw [← Hka.out, nb_bts _ (Nat.lt_trans (num_lt _) (by decide))]; exact decide_eq_true (num_lt _)) w
  have C22 := bytes_f (L12.out) (b := ka) (by rw [N12.out, ← Hka.out, nb_bts _ (Nat.lt_trans (num_lt _) (by decide)), Nat.mod_eq_of_lt (num_lt _)])
  have C28 := bytes_f (L16.out) (b := ka) (by rw [N16.out, N15.out, show nb (rw17 251 255 3) % P = 0 by decide +kernel, Nat.add_zero, Nat.mod_eq_of_lt (num_lt _)]; exact Hka.out)
  refine wp_as (c' := rgB5) (by kernel_rfl) ?_
  refine byts_r5  Kka (X7.out.key (g := g4) (x := ka) (by simp)) C18 (X7.out.row (g := g5) (x := [e12x0, e12x1, e12x2, e12x3, e12x4]) (by simp)) C22 HQka.out (X7.out.row (g := g6) (x := [e16x0, e16x1, e16x2, e16x3, e16x4]) (by simp)) C28 ?_
  intro W8 hb
  have X8 : Hid (Bs w [(g4, ka), (w.heap.size, x)] [(g6, [e16x0, e16x1, e16x2, e16x3, e16x4]), (g5, [e12x0, e12x1, e12x2, e12x3, e12x4]), (g3, [e8x0, e8x1, e8x2, e8x3, e8x4])] W8) := X7.out.below hb
  clear hb X7
  go_wp2_with (with_reducible refine at_list ?_; refine wpList_load_row rfl 39 (.tmp 1) rfl w.heap.size rfl 39 (VI .u8 x) (0, 0) _ (X8.out.key (by simp)) Try.underlying39 rfl HX.out.info ?_)
  by_cases hlt : nb x < P
  · have hq : ka = x := by rw [← Hka.out, N8.out, Nat.mod_eq_of_lt hlt]; exact bts_nb _ HX.out.len HX.out.bd
    have qx : ∀ w, (Op.equalIn 10000 39 (.agg (VI .u8 ka)) (.agg (VI .u8 x))).run Try.prog w = .ok true w := fun w => by rw [hq]; exact eq17t HX.out.len w
    refine (below_is HX.out (decide_eq_true hlt) _).mono ?_
    rintro e V1 ⟨rfl, hb⟩
    have Y1 : Hid (Bs w [(g4, ka), (w.heap.size, x)] [(g6, [e16x0, e16x1, e16x2, e16x3, e16x4]), (g5, [e12x0, e12x1, e12x2, e12x3, e12x4]), (g3, [e8x0, e8x1, e8x2, e8x3, e8x4])] V1) := X8.out.below hb
    clear hb hq hlt
    go_wp2_with (with_reducible refine at_list ?_; first | (refine wpList_load_row_g (by kernel_rfl) 39 (.tmp 4) rfl (g4) rfl 39 (VI .u8 ka) (0, 0) _ (Y1.out.key (g := g4) (x := ka) (by simp)) Try.underlying39 rfl Kka.out.info ?_) | (refine wpList_load_row_g (by kernel_rfl) 39 (.tmp 1) rfl w.heap.size rfl 39 (VI .u8 x) (0, 0) _ (Y1.out.key (g := w.heap.size) (x := x) (by simp)) Try.underlying39 rfl HX.out.info ?_))
    refine (known_f.out _).mono ?_
    rintro e V2 ⟨rfl, hb⟩
    have Y2 := Y1.out.below hb
    clear hb
    go_wp2
    go_ret
    exact ⟨rfl, Y2.old⟩
  · refine (below_is HX.out (decide_eq_false hlt) _).mono ?_
    rintro e V1 ⟨rfl, hb⟩
    have Y1 : Hid (Bs w [(g4, ka), (w.heap.size, x)] [(g6, [e16x0, e16x1, e16x2, e16x3, e16x4]), (g5, [e12x0, e12x1, e12x2, e12x3, e12x4]), (g3, [e8x0, e8x1, e8x2, e8x3, e8x4])] V1) := X8.out.below hb
    clear hb hlt
    go_wp2_with (fail)
    refine (known_f.out _).mono ?_
    rintro e V2 ⟨rfl, hb⟩
    have Y2 := Y1.out.below hb
    clear hb
    go_wp2
    go_ret
    exact ⟨rfl, Y2.old⟩
end Go.Proofs.Ytfeoamkngnpcmaa
