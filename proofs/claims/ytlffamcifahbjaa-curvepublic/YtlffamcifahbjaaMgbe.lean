import Derived.Test.YtlffamcifahbjaaChecked
import Derived.Deep.RegionHeld3
import Derived.Test.YtlffamcifahbjaaMgbd
import Derived.Test.YtlffamcifahbjaaMgaq
import Derived.Test.YtlffamcifahbjaaMgaw
import Derived.Test.YtlffamcifahbjaaMgax
import Derived.Test.YtlffamcifahbjaaMgai
namespace Go.Proofs.Ytlffamcifahbjaa
set_option linter.unusedSimpArgs false
set_option linter.unusedVariables false
open Go.ChangeShapes Go.WideShapes Go.ChangeAt Go.RowKit Go.Pin Go.Fld
set_option maxRecDepth 100000 in
set_option maxHeartbeats 4000000 in
theorem rpublic_any {k : List Int} (hk : Key32 k) (w : World) :
    Calls Try.prog 18 #[.agg (VI .u8 k)] w fun e w' => e = .returned (.agg (VI .u8 (bts (shn k (kk 9))))) ∧ Below w.heap.size w w' := by
  have LK : Hid (k.length = 32) := hk.len
  have hE := ((ev_nil' w).new (bxK k)).new (bxK (List.replicate 32 0))
  simp only [size_alloc] at hE
  obtain ⟨Y0, hW⟩ : ∃ W, (w.alloc (.cells (VI .u8 k) 23)).alloc (.cells #[.int .u8 0, .int .u8 0, .int .u8 0, .int .u8 0, .int .u8 0, .int .u8 0, .int .u8 0, .int .u8 0, .int .u8 0, .int .u8 0, .int .u8 0, .int .u8 0, .int .u8 0, .int .u8 0, .int .u8 0, .int .u8 0, .int .u8 0, .int .u8 0, .int .u8 0, .int .u8 0, .int .u8 0, .int .u8 0, .int .u8 0, .int .u8 0, .int .u8 0, .int .u8 0, .int .u8 0, .int .u8 0, .int .u8 0, .int .u8 0, .int .u8 0, .int .u8 0] 23) = W := ⟨_, rfl⟩
  rw [show (w.alloc (bxK k)).alloc (bxK (List.replicate 32 0)) = Y0 from hW] at hE
  have X0 : Hid (Ev w.heap.size w (.pointer none) [] ((w.heap.size + 1, bxK (List.replicate 32 0)) :: [(w.heap.size, bxK k)]) Y0) := hE
  have CS : Hid (∀ w, Calls Try.prog 13 #[.agg (VI .u8 k), .agg #[.int .u8 9, .int .u8 0, .int .u8 0, .int .u8 0, .int .u8 0, .int .u8 0, .int .u8 0, .int .u8 0, .int .u8 0, .int .u8 0, .int .u8 0, .int .u8 0, .int .u8 0, .int .u8 0, .int .u8 0, .int .u8 0, .int .u8 0, .int .u8 0, .int .u8 0, .int .u8 0, .int .u8 0, .int .u8 0, .int .u8 0, .int .u8 0, .int .u8 0, .int .u8 0, .int .u8 0, .int .u8 0, .int .u8 0, .int .u8 0, .int .u8 0, .int .u8 0]] w fun e w' => e = .returned (.agg (VI .u8 (bts (shn k (kk 9))))) ∧ Below w.heap.size w w') := fun w => rshared_any hk kk9 w
  have LR : Hid ((bts (shn k (kk 9))).length = 32) := bts_len _
  clear hE hk
  generalize bts (shn k (kk 9)) = z at *
  go_enter Try.func18, Try.ntmps18
  go_wp2_with (with_reducible refine at_list ?_; first | (refine wpList_load_row rfl 23 (.tmp 1) rfl w.heap.size rfl 23 (VI .u8 k) (0, 0) _ (X0.out.row (g := w.heap.size) (x := bxK k) (by simp)) Try.underlying23 rfl (infoK LK.out) ?_))
  refine (CS.out _).mono ?_
  rintro e W4 ⟨rfl, hb⟩
  have X4 : Hid (Ev w.heap.size w (.pointer none) [] ((w.heap.size + 1, bxK (List.replicate 32 0)) :: [(w.heap.size, bxK k)]) W4) := X0.out.below hb
  clear hb X0 hW CS
  go_wp2_with (with_reducible refine at_list ?_; refine hold_store 23 (.tmp 2) (.tmp 5) rfl ?_)
  have ht := there_mid (X4.out.row (g := w.heap.size + 1) (x := bxK (List.replicate 32 0)) (by simp)) 0 32 (by decide)
  refine wpList_store_mid rfl 23 (.tmp 2) (.tmp 5) rfl (w.heap.size + 1) 0 (VI .u8 z) rfl rfl (by rw [VI_size, LR.out]; exact ht) (infoK LR.out) (VI_one _ _) ?_
  have hN := X4.out.set rfl (by simp only [List.mem_cons, List.not_mem_nil, or_false, forall_eq]; omega) (but_setCells (w.heap.size + 1) (z.map (Value.int .u8)) 0 W4) (whole_setK (X4.out.row (g := w.heap.size + 1) (x := bxK (List.replicate 32 0)) (by simp)) (by rw [LR.out]; rfl))
  obtain ⟨W5, hW⟩ : ∃ W, W4.setCells (w.heap.size + 1) 0 (z.map (Value.int .u8)) = W := ⟨_, rfl⟩
  rw [hW] at hN
  rw [show W4.setCells (w.heap.size + 1) 0 (VI .u8 z).toList = W5 from hW]
  have X5 : Hid _ := hN
  clear hN hW ht X4
  go_wp2_with fail
  refine bodyPost_ret (v := .agg (VI .u8 z)) ?_ rfl ⟨rfl, X5.out.old⟩
  exact results_cell_row (P := Try.prog) (fn := Try.f18) (p := 2) (ty := 23) rfl _ _ (w.heap.size + 1) 23 (VI .u8 z) (0, 0) _ rfl (X5.out.row (g := w.heap.size + 1) (x := bxK z) (by simp)) Try.underlying23 rfl (infoK LR.out)
end Go.Proofs.Ytlffamcifahbjaa
namespace Go.Proofs.Ytlffamcifahbjaa
set_option linter.unusedSimpArgs false
set_option linter.unusedVariables false
open Go.ChangeShapes Go.WideShapes Go.ChangeAt Go.RowKit Go.Pin Go.Fld
def o20 : List Int := [7, 7, 1, 4, 2, 4, 2, 1, 2, 3, 3, 1, 4, 2, 4, 3, 3, 5, 1, 3]
def o4 : List Int := [7, 7, 6, 3]
theorem slog_opv (i : Nat) : slog (i + 1) = slog i ++ opv o20 := slog_succ i
theorem shlog_opv : shlog = slog 255 ++ opv o4 := rfl
theorem sl_ints {w : World} {b : Nat} {T : TypeId} {os : List Int} (h : w.heap[b]? = some (.cells (VI .i64 os) T (0, 0))) : Sl w (.slice (some ⟨b, 0, none⟩) os.length os.length) 1 (os.map (Value.int .i64)) os.length := by
  refine ⟨by simp, _, _, rfl, Nat.le_refl _, .inr ⟨b, 0, rfl, fun j x hx => ?_⟩⟩
  rw [Nat.zero_add, cell_of_row w b j _ _ _ h]
  simpa [VI] using hx
set_option maxRecDepth 100000 in
set_option maxHeartbeats 1000000 in
theorem revents_any (w : World) : Calls Try.prog 15 #[] w fun e w' => ∃ v, e = .returned v ∧ w'.ownsRow w.heap.size 31 2 v shlog.length (evC shlog) ∧ Below w.heap.size w w' := by
  obtain ⟨W0, hW⟩ : ∃ W, w.alloc (.cells (VI .i64 o20) 3) = W := ⟨_, rfl⟩
  have hW' : w.alloc (.cells #[.int .i64 7, .int .i64 7, .int .i64 1, .int .i64 4, .int .i64 2, .int .i64 4, .int .i64 2, .int .i64 1, .int .i64 2, .int .i64 3, .int .i64 3, .int .i64 1, .int .i64 4, .int .i64 2, .int .i64 4, .int .i64 3, .int .i64 3, .int .i64 5, .int .i64 1, .int .i64 3] 3) = W0 := hW
  have r0 : W0.heap[w.heap.size]? = some (.cells (VI .i64 o20) 3 (0, 0)) := by rw [← hW, heap_alloc_any, if_pos rfl]
  have s0 : W0.heap.size = w.heap.size + 1 := by rw [← hW, size_alloc]
  have b0 : Below w.heap.size w W0 := by rw [← hW]; exact (Below.refl _ _).alloc (Nat.le_refl _) _
  have R0 : Hid (W0.heap[w.heap.size]? = some (.cells (VI .i64 o20) 3 (0, 0))) := r0
  have S0 : Hid (W0.heap.size = w.heap.size + 1) := s0
  have B0 : Hid (Below w.heap.size w W0) := b0
  clear hW r0 s0 b0
  go_enter Try.func15, Try.ntmps15
  go_wp2_with fail
  try rw [hW']
  clear hW'
  go_loopw [1, 3] (fun v iv wr => ∃ i : Nat, i ≤ 255 ∧ iv = .int .i64 i ∧ wr.ownsRow (w.heap.size + 1) 31 2 v (slog i).length (evC (slog i)) ∧ Below (w.heap.size + 1) W0 wr) (fun _ iv _ => 255 - (intOf iv).toNat)
  case atStart => exact ⟨0, Nat.zero_le _, rfl, World.ownsRow_nil _ _ _ _, Below.refl _ _⟩
  case round =>
    obtain ⟨i, hi, rfl, hown, hbel⟩ := hrel
    have hsz : w.heap.size + 1 ≤ wr.heap.size := by have := hbel.size; rw [S0.out] at this; exact this
    have hln : (slog i).length ≤ 5100 := by rw [slog_len]; omega
    have hk := hown.lt
    by_cases hlt : i < 255
    · have hrow : wr.heap[w.heap.size]? = some (.cells (VI .i64 o20) 3 (0, 0)) := (hbel.block _ (by omega)).trans R0.out
      have CW := with_any (w.heap.size + 1) _ _ (slog i) o20 wr hsz hown (sl_ints hrow) (fun b o n c e he => by
        have h1 := (hk b he).1
        injection e with e1; injection e1 with e2; injection e2 with e3
        omega) (by have : o20.length = 20 := rfl; omega)
      have HC : Hid _ := CW
      have HB : Hid (Below (w.heap.size + 1) W0 wr) := hbel
      have HS : Hid (w.heap.size + 1 ≤ wr.heap.size) := hsz
      have HK : Hid _ := hk
      clear CW hown hbel hrow hk hln hsz
      go_wp2_with fail
      refine Calls.mono HC.out ?_
      rintro e W1 ⟨v, rfl, h1, h2, h3⟩
      rw [← slog_opv] at h1
      have h4 := h2.below (B := w.heap.size + 1) (fun k hk => (HK.out k hk).1) HS.out
      have H1 : Hid (W1.ownsRow (w.heap.size + 1) 31 2 v (slog (i + 1)).length (evC (slog (i + 1)))) := h1
      have H4 : Hid (Below (w.heap.size + 1) W0 W1) := HB.out.trans h4
      clear h1 h2 h3 h4 HC HB HK
      go_wp2
      go_roundw
      case rel => exact ⟨i + 1, by omega, by go_num, H1.out, H4.out⟩
      case measure => simp [intOf]; omega
    · have hi' : i = 255 := by omega
      subst hi'
      obtain ⟨W2, hW⟩ : ∃ W, wr.alloc (.cells (VI .i64 o4) 3) = W := ⟨_, rfl⟩
      have hW' : wr.alloc (.cells #[.int .i64 7, .int .i64 7, .int .i64 6, .int .i64 3] 3) = W2 := hW
      have hrow : W2.heap[wr.heap.size]? = some (.cells (VI .i64 o4) 3 (0, 0)) := by rw [← hW, heap_alloc_any, if_pos rfl]
      have hb2 : Below wr.heap.size wr W2 := by rw [← hW]; exact (Below.refl _ _).alloc (Nat.le_refl _) _
      have hsz2 : w.heap.size + 1 ≤ W2.heap.size := Nat.le_trans hsz hb2.size
      have CW := with_any (w.heap.size + 1) _ _ (slog 255) o4 W2 hsz2 (owns_below hown hb2) (sl_ints hrow) (fun b o n c e he => by
        have h1 := (hk b he).2
        injection e with e1; injection e1 with e2; injection e2 with e3
        omega) (by have : o4.length = 4 := rfl; omega)
      rw [← shlog_opv] at CW
      have HC : Hid _ := CW
      have HB : Hid (Below (w.heap.size + 1) W0 W2) := hbel.trans (hb2.mono hsz)
      have HS : Hid (w.heap.size + 1 ≤ W2.heap.size) := hsz2
      have HK : Hid _ := hk
      clear CW hown hbel hrow hk hln hsz hb2 hsz2 hW
      go_wp2_with fail
      try rw [hW']
      clear hW'
      refine Calls.mono HC.out ?_
      rintro e W3 ⟨v, rfl, h1, h2, h3⟩
      have h4 := h2.below (B := w.heap.size + 1) (fun k hk => (HK.out k hk).1) HS.out
      have H1 : Hid (W3.ownsRow w.heap.size 31 2 v shlog.length (evC shlog)) := owns_mono (by omega) h1
      have H4 : Hid (Below w.heap.size w W3) := B0.out.trans ((HB.out.trans h4).mono (by omega))
      clear h1 h2 h3 h4 HC HB HK
      go_wp2
      go_ret
      exact ⟨_, rfl, H1.out, H4.out⟩
end Go.Proofs.Ytlffamcifahbjaa
namespace Go.Proofs.Ytlffamcifahbjaa
set_option linter.unusedSimpArgs false
set_option linter.unusedVariables false
open Go.ChangeShapes Go.WideShapes Go.ChangeAt Go.RowKit Go.Pin Go.Fld
theorem wpList_load_row_g {P : Program} {ops : Array Oper} {rest : List Oper} {o : Oper} {a : Act} {w : World} {Q : Exit → Act → World → Prop} (hw : Region.wanted o (yielded ops a.tmps) = true) (ty : TypeId) (x : Operand) (ho : o.op = .load ty x)
    (g : Nat) (hx : a.eval x = .pointer (some ⟨g, 0, none⟩)) (t : TypeId) (cs : Array Value) (fr : Nat × Nat) (d : TypeDesc) (hg : w.heap[g]? = some (.cells cs t fr))
    (hu : P.underlying ty = some d) (hd : (match d with | .struct _ | .array _ _ => true | _ => false) = true) (hi : (P.info? ty).map (·.size) = some cs.size)
    (h : wpList P ops Q rest (a.put o.dst (.agg cs)) w) : wpList P ops Q (o :: rest) a w := by
  unfold wpList
  rw [if_pos hw]
  exact .inl (wp_load_row ty x ho g hx t cs fr d hg hu hd hi h)
theorem v_total {B : Nat} {w : World} {R : Nat} {l : List (Int × Int)} {bx : List (Nat × Obj)} {wr : World} (h : Ev B w (.pointer (some ⟨R, 0, none⟩)) l bx wr) : Calls Try.prog 28 #[.pointer (some ⟨R, 0, none⟩)] wr fun e w' => e = .returned (.int .i64 l.length) ∧ w' = wr := by
  rcases h.rc with e | ⟨R', vs, e, h2, h3⟩
  · cases e
  · injection e with e; injection e with e; injection e with e1; subst e1
    exact total_any _ vs l wr h2.opt
set_option maxRecDepth 100000 in
set_option maxHeartbeats 8000000 in
theorem known_any (w : World) : Calls Try.prog 16 #[] w fun e w' => e = .returned (.bool true) ∧ Below w.heap.size w w' := by
  have hE := ev_new w
  obtain ⟨n, hn⟩ : ∃ n, w.heap.size = n := ⟨_, rfl⟩
  obtain ⟨W0, hW⟩ : ∃ W, w.alloc (.cells #[.slice none 0 0, .int .i64 0] 46) = W := ⟨_, rfl⟩
  rw [hW] at hE
  rw [hn] at hE
  have CN : Hid (Calls Try.prog 9 #[] w fun e w' => e = .returned (.pointer (some ⟨n, 0, none⟩)) ∧ w' = W0) := by
    have := new_any w
    rw [hn, hW] at this
    exact this
  have X0 : Hid (Ev n w (.pointer (some ⟨n, 0, none⟩)) [] [] W0) := hE
  have CP : Hid (∀ l bx wr, Ev n w (.pointer (some ⟨n, 0, none⟩)) l bx wr → l.length ≤ 700000 → Calls Try.prog 17 #[.pointer (some ⟨n, 0, none⟩), .agg #[.int .u8 0, .int .u8 0, .int .u8 0, .int .u8 0, .int .u8 0, .int .u8 0, .int .u8 0, .int .u8 0, .int .u8 0, .int .u8 0, .int .u8 0, .int .u8 0, .int .u8 0, .int .u8 0, .int .u8 0, .int .u8 0, .int .u8 0, .int .u8 0, .int .u8 0, .int .u8 0, .int .u8 0, .int .u8 0, .int .u8 0, .int .u8 0, .int .u8 0, .int .u8 0, .int .u8 0, .int .u8 0, .int .u8 0, .int .u8 0, .int .u8 0, .int .u8 0]] wr fun e w' => e = .returned (.agg (VI .u8 (bts (shn (kk 0) (kk 9))))) ∧ Ev n w (.pointer (some ⟨n, 0, none⟩)) (l ++ shlog) bx w') := fun l bx wr h hl => public_any h hl (kk_key 0 (by decide) (by decide))
  have CS : Hid (∀ l bx wr, Ev n w (.pointer (some ⟨n, 0, none⟩)) l bx wr → l.length ≤ 700000 → Calls Try.prog 11 #[.pointer (some ⟨n, 0, none⟩), .agg #[.int .u8 5, .int .u8 0, .int .u8 0, .int .u8 0, .int .u8 0, .int .u8 0, .int .u8 0, .int .u8 0, .int .u8 0, .int .u8 0, .int .u8 0, .int .u8 0, .int .u8 0, .int .u8 0, .int .u8 0, .int .u8 0, .int .u8 0, .int .u8 0, .int .u8 0, .int .u8 0, .int .u8 0, .int .u8 0, .int .u8 0, .int .u8 0, .int .u8 0, .int .u8 0, .int .u8 0, .int .u8 0, .int .u8 0, .int .u8 0, .int .u8 0, .int .u8 0], .agg #[.int .u8 1, .int .u8 0, .int .u8 0, .int .u8 0, .int .u8 0, .int .u8 0, .int .u8 0, .int .u8 0, .int .u8 0, .int .u8 0, .int .u8 0, .int .u8 0, .int .u8 0, .int .u8 0, .int .u8 0, .int .u8 0, .int .u8 0, .int .u8 0, .int .u8 0, .int .u8 0, .int .u8 0, .int .u8 0, .int .u8 0, .int .u8 0, .int .u8 0, .int .u8 0, .int .u8 0, .int .u8 0, .int .u8 0, .int .u8 0, .int .u8 0, .int .u8 0]] wr fun e w' => e = .returned (.agg (VI .u8 (kk 0))) ∧ Ev n w (.pointer (some ⟨n, 0, none⟩)) (l ++ shlog) bx w') := fun l bx wr h hl => (shared_any h hl (kk_key 5 (by decide) (by decide)) (kk_key 1 (by decide) (by decide))).mono fun e w' hh => ⟨by rw [hh.1, known_b], hh.2⟩
  have CC : Hid (∀ w, Calls Try.prog 19 #[.agg #[.int .u8 7, .int .u8 0, .int .u8 0, .int .u8 0, .int .u8 0, .int .u8 0, .int .u8 0, .int .u8 0, .int .u8 0, .int .u8 0, .int .u8 0, .int .u8 0, .int .u8 0, .int .u8 0, .int .u8 0, .int .u8 0, .int .u8 0, .int .u8 0, .int .u8 0, .int .u8 0, .int .u8 0, .int .u8 0, .int .u8 0, .int .u8 0, .int .u8 0, .int .u8 0, .int .u8 0, .int .u8 0, .int .u8 0, .int .u8 0, .int .u8 0, .int .u8 0]] w fun e w' => e = .returned (.agg (VI .u8 ((kk 0).set 31 64))) ∧ Below w.heap.size w w') := fun w => (clamp_any (kk 7) (kk_key 7 (by decide) (by decide)) w).mono fun e w' hh => ⟨by rw [hh.1, known_c], hh.2⟩
  have Q0 : ∀ w, (Op.equalIn 10000 23 (.agg (VI .u8 (kk 0))) (.agg #[.int .u8 0, .int .u8 0, .int .u8 0, .int .u8 0, .int .u8 0, .int .u8 0, .int .u8 0, .int .u8 0, .int .u8 0, .int .u8 0, .int .u8 0, .int .u8 0, .int .u8 0, .int .u8 0, .int .u8 0, .int .u8 0, .int .u8 0, .int .u8 0, .int .u8 0, .int .u8 0, .int .u8 0, .int .u8 0, .int .u8 0, .int .u8 0, .int .u8 0, .int .u8 0, .int .u8 0, .int .u8 0, .int .u8 0, .int .u8 0, .int .u8 0, .int .u8 0])).run Try.prog w = .ok true w := fun w => (run_equalIn_row w 9998 23 5 .u8 32 (kk 0) (kk 0) rfl rfl Try.underlying23 Try.underlying5 size5).trans (by rw [beq_self_eq_true])
  have Q1 : ∀ w, (Op.equalIn 10000 23 (.agg (VI .u8 ((kk 0).set 31 64))) (.agg #[.int .u8 0, .int .u8 0, .int .u8 0, .int .u8 0, .int .u8 0, .int .u8 0, .int .u8 0, .int .u8 0, .int .u8 0, .int .u8 0, .int .u8 0, .int .u8 0, .int .u8 0, .int .u8 0, .int .u8 0, .int .u8 0, .int .u8 0, .int .u8 0, .int .u8 0, .int .u8 0, .int .u8 0, .int .u8 0, .int .u8 0, .int .u8 0, .int .u8 0, .int .u8 0, .int .u8 0, .int .u8 0, .int .u8 0, .int .u8 0, .int .u8 0, .int .u8 64])).run Try.prog w = .ok true w := fun w => (run_equalIn_row w 9998 23 5 .u8 32 ((kk 0).set 31 64) ((kk 0).set 31 64) rfl rfl Try.underlying23 Try.underlying5 size5).trans (by rw [beq_self_eq_true])
  obtain ⟨k0, k1, k31⟩ := known_a
  have KA : Hid _ := k0
  have KB : Hid _ := k1
  have KD : Hid _ := k31
  clear hE hW k0 k1 k31
  obtain ⟨z, hz⟩ : ∃ z, bts (shn (kk 0) (kk 9)) = z := ⟨_, rfl⟩
  have LZ : Hid (z.length = 32) := hz ▸ bts_len _
  rw [hz] at CP KA KB KD
  clear hz
  go_enter Try.func16, Try.ntmps16
  go_wp2_with fail
  refine CN.out.mono ?_
  rintro e W1 ⟨rfl, rfl⟩
  go_wp2_with fail
  refine (CP.out _ _ _ X0.out (by decide)).mono ?_
  rintro e W2 ⟨rfl, hN⟩
  have X2 : Hid _ := hN
  clear hN X0 CN
  go_wp2_with (with_reducible refine at_list ?_; refine hold_store 23 (.tmp 2) (.tmp 7) rfl ?_)
  refine store_row_new rfl 23 (.tmp 2) (.tmp 7) rfl W2.heap.size (VI .u8 z) rfl rfl rfl 23 (VI .u8 (List.replicate 32 0)) (infoK LZ.out) (by simp [LZ.out]) (VI_one _ _) ?_
  have hN := X2.out.new (bxK z)
  obtain ⟨W3, hW⟩ : ∃ W, W2.alloc (bxK z) = W := ⟨_, rfl⟩
  rw [hW] at hN
  rw [show W2.alloc (.cells (VI .u8 z) 23) = W3 from hW]
  obtain ⟨gu, hg⟩ : ∃ g, W2.heap.size = g := ⟨_, rfl⟩
  rw [hg] at hN
  try simp only [hg]
  clear hg hW
  have X3 : Hid (Ev n w (.pointer (some ⟨n, 0, none⟩)) ([] ++ shlog) [(gu, bxK z)] W3) := hN
  clear hN X2
  go_wp2_with fail
  refine (CS.out _ _ _ X3.out (by rw [List.nil_append, shlog_len]; decide)).mono ?_
  rintro e W4 ⟨rfl, hN⟩
  have X4 : Hid _ := hN
  clear hN X3
  go_wp2_with (with_reducible refine at_list ?_; refine hold_store 23 (.tmp 3) (.tmp 11) rfl ?_)
  refine store_row_new rfl 23 (.tmp 3) (.tmp 11) rfl W4.heap.size (VI .u8 (kk 0)) rfl rfl rfl 23 (VI .u8 (List.replicate 32 0)) (infoK rfl) rfl (VI_one _ _) ?_
  have hN := X4.out.new (bxK (kk 0))
  obtain ⟨W5, hW⟩ : ∃ W, W4.alloc (bxK (kk 0)) = W := ⟨_, rfl⟩
  rw [hW] at hN
  rw [show W4.alloc (.cells (VI .u8 (kk 0)) 23) = W5 from hW]
  obtain ⟨gz, hg⟩ : ∃ g, W4.heap.size = g := ⟨_, rfl⟩
  rw [hg] at hN
  try simp only [hg]
  clear hg hW
  have X5 : Hid (Ev n w (.pointer (some ⟨n, 0, none⟩)) (([] ++ shlog) ++ shlog) [(gz, bxK (kk 0)), (gu, bxK z)] W5) := hN
  clear hN X4
  have d0 : W5.cell? ⟨gu, 0, none⟩ = some (.int .u8 47) := by have := rowB_cell (X5.out.row (g := gu) (x := bxK z) (by simp)) (i := 0) (by rw [LZ.out]; decide); rw [KA.out] at this; exact this
  have d1 : W5.cell? ⟨gu, 1, none⟩ = some (.int .u8 229) := by have := rowB_cell (X5.out.row (g := gu) (x := bxK z) (by simp)) (i := 1) (by rw [LZ.out]; decide); rw [KB.out] at this; exact this
  have d31 : W5.cell? ⟨gu, 31, none⟩ = some (.int .u8 116) := by have := rowB_cell (X5.out.row (g := gu) (x := bxK z) (by simp)) (i := 31) (by rw [LZ.out]; decide); rw [KD.out] at this; exact this
  go_wp2_with (with_reducible refine at_list ?_; first | (refine wpList_load_row_g (by kernel_rfl) 23 (.tmp 3) rfl gz rfl 23 (VI .u8 (kk 0)) (0, 0) _ (X5.out.row (g := gz) (x := bxK (kk 0)) (by simp)) Try.underlying23 rfl (infoK rfl) ?_))
  refine (CC.out _).mono ?_
  rintro e W6 ⟨rfl, hb⟩
  have X6 : Hid _ := X5.out.below hb
  clear hb X5 d0 d1 d31
  go_wp2_with fail
  refine (v_total X6.out).mono ?_
  rintro e W7 ⟨rfl, hw⟩
  obtain rfl := hw
  have ht : ((([] ++ shlog) ++ shlog).length : Int) = 10208 := by rw [List.nil_append, List.length_append, shlog_len]; rfl
  go_wp2
  go_ret
  exact ⟨rfl, by rw [hn]; exact X6.out.old⟩
end Go.Proofs.Ytlffamcifahbjaa
namespace Go.Proofs.Ytlffamcifahbjaa
set_option linter.unusedSimpArgs false
set_option linter.unusedVariables false
open Go.ChangeShapes Go.WideShapes Go.ChangeAt Go.RowKit Go.Pin Go.Fld
/-- a Recorder as New makes it -/
abbrev bxR : Obj := .cells #[.slice none 0 0, .int .i64 0] 46
theorem Ev.recOf {B : Nat} {w : World} {R : Nat} {l : List (Int × Int)} {bx : List (Nat × Obj)} {W : World} (h : Ev B w (.pointer (some ⟨R, 0, none⟩)) l bx W) : ∃ vs, Rec B W R vs l ∧ ∀ p ∈ bx, ¬ Blk R vs p.1 := by
  rcases h.rc with e | ⟨R', vs, e, h2, h3⟩
  · cases e
  · injection e with e; injection e with e; injection e with e1; subst e1
    exact ⟨vs, h2, h3⟩
theorem rec_zero {B : Nat} {W : World} {S : Nat} (hS : W.heap[S]? = some bxR) (hB : B ≤ S) : Rec B W S (.slice none 0 0) [] :=
  ⟨hB, hS, World.ownsRow_nil _ _ _ _⟩
theorem ev_switch {B : Nat} {w W : World} {S : Nat} {bx : List (Nat × Obj)} (hold : Below B w W) (hle : B ≤ W.heap.size) (hS : W.heap[S]? = some bxR) (hB : B ≤ S) (hge : ∀ p ∈ bx, B ≤ p.1) (hat : ∀ p ∈ bx, W.heap[p.1]? = some p.2) (hne : ∀ p ∈ bx, p.1 ≠ S) :
    Ev B w (.pointer (some ⟨S, 0, none⟩)) [] bx W :=
  ⟨hold, hle, hge, hat, .inr ⟨S, _, rfl, rec_zero hS hB, fun p hp hk => by
    rcases hk with hk | hk
    · exact hne p hp hk
    · cases hk⟩⟩
theorem blk_list {B : Nat} {W : World} {R : Nat} {vs : Value} {l : List (Int × Int)} (h : Rec B W R vs l) : ∃ bl : List (Nat × Obj), (∀ k, Blk R vs k → ∃ o, (k, o) ∈ bl) ∧ (∀ p ∈ bl, Blk R vs p.1 ∧ W.heap[p.1]? = some p.2) := by
  have g : ∀ k, Blk R vs k → ∃ o, W.heap[k]? = some o := fun k hk => ⟨_, Array.getElem?_eq_getElem (h.lt k hk)⟩
  obtain ⟨o1, h1⟩ := g R (.inl rfl)
  cases hv : vs.ownBlock with
  | none =>
    refine ⟨[(R, o1)], fun k hk => ?_, fun p hp => ?_⟩
    · rcases hk with rfl | hk
      · exact ⟨o1, by simp⟩
      · rw [hv] at hk; cases hk
    · simp at hp; subst hp; exact ⟨.inl rfl, h1⟩
  | some g2 =>
    obtain ⟨o2, h2⟩ := g g2 (.inr hv)
    refine ⟨[(R, o1), (g2, o2)], fun k hk => ?_, fun p hp => ?_⟩
    · rcases hk with rfl | hk
      · exact ⟨o1, by simp⟩
      · rw [hv] at hk; injection hk with hk; subst hk; exact ⟨o2, by simp⟩
    · simp at hp
      rcases hp with rfl | rfl
      · exact ⟨.inl rfl, h1⟩
      · exact ⟨.inr hv, h2⟩
/-- another Recorder's blocks were boxes -/
theorem Ev.keeps {B : Nat} {W W' : World} {rv : Value} {m l : List (Int × Int)} {bx : List (Nat × Obj)} {R : Nat} {vs : Value} (h : Ev B W rv m bx W') (hr : Rec B W R vs l) (hb : ∀ k, Blk R vs k → ∃ o, (k, o) ∈ bx ∧ W.heap[k]? = some o) : Rec B W' R vs l := by
  refine hr.grow (S := fun k => ¬ Blk R vs k) ⟨h.old.os, h.old.tape, h.old.output, h.old.size, fun k hk hn => ?_⟩ (fun k hk hn => hn hk)
  have hk' : Blk R vs k := Classical.byContradiction hn
  obtain ⟨o, h1, h2⟩ := hb k hk'
  rw [h.row h1, h2]
end Go.Proofs.Ytlffamcifahbjaa
namespace Go.Proofs.Ytlffamcifahbjaa
set_option linter.unusedSimpArgs false
open Go.ChangeShapes Go.WideShapes Go.ChangeAt Go.RowKit Go.Pin Go.Fld
theorem own : ownKnob Try.prog.godebug = none := by kernel_rfl
theorem laidOut : laidOutB Try.prog = true := by kernel_rfl
theorem key_of {l : List Int} (hl : l.length = 32) (h : ∀ x ∈ l, (Lit.int .u8 x).wf = true) : Key32 l := ⟨hl, fun x hx => by
  have := bounds_u8 (h x hx)
  omega⟩
theorem u64_of {x : Int} (h : (Lit.int .u64 x).wf = true) : 0 ≤ x ∧ x < 18446744073709551616 := by
  have := bounds_u64 h
  omega
theorem u32_of {x : Int} (h : (Lit.int .u32 x).wf = true) : ∃ n : Nat, x = (n : Int) ∧ n < 4294967296 := by
  have := bounds_u32 h
  exact ⟨x.toNat, by omega, by omega⟩
end Go.Proofs.Ytlffamcifahbjaa
namespace Go.Proofs.Ytlffamcifahbjaa
set_option linter.unusedSimpArgs false
set_option linter.unusedVariables false
open Go.ChangeShapes Go.WideShapes Go.ChangeAt Go.RowKit Go.Pin Go.Fld
theorem public_at {k z : List Int} (hk : Key32 k) (hz : bts (shn k (kk 9)) = z) : Hid (∀ B w rv bx wr, Ev B w rv [] bx wr → Calls Try.prog 17 #[rv, .agg (VI .u8 k)] wr fun e w' => e = .returned (.agg (VI .u8 z)) ∧ Ev B w rv shlog bx w') := fun B w rv bx wr h =>
  (public_any h (by decide) hk).mono fun e w' hh => ⟨by rw [hh.1, hz], by have := hh.2; rwa [List.nil_append] at this⟩
set_option maxRecDepth 100000 in
set_option maxHeartbeats 8000000 in
theorem publics_walk {k : List Int} (hk : Key32 k) (w : World) :
    Calls Try.prog 4 #[.agg (VI .u8 k)] w fun e w' => e = .returned (.bool true) ∧ Below w.heap.size w w' := by
  have LK : Hid (k.length = 32) := hk.len
  obtain ⟨z, hz⟩ : ∃ z, bts (shn k (kk 9)) = z := ⟨_, rfl⟩
  have LZ : Hid (z.length = 32) := hz ▸ bts_len _
  have CP := public_at hk hz
  have CR : Hid (∀ w, Calls Try.prog 18 #[.agg (VI .u8 k)] w fun e w' => e = .returned (.agg (VI .u8 z)) ∧ Below w.heap.size w w') := hz ▸ fun w => rpublic_any hk w
  have CS : Hid (∀ w, Calls Try.prog 11 #[.pointer none, .agg (VI .u8 k), .agg #[.int .u8 9, .int .u8 0, .int .u8 0, .int .u8 0, .int .u8 0, .int .u8 0, .int .u8 0, .int .u8 0, .int .u8 0, .int .u8 0, .int .u8 0, .int .u8 0, .int .u8 0, .int .u8 0, .int .u8 0, .int .u8 0, .int .u8 0, .int .u8 0, .int .u8 0, .int .u8 0, .int .u8 0, .int .u8 0, .int .u8 0, .int .u8 0, .int .u8 0, .int .u8 0, .int .u8 0, .int .u8 0, .int .u8 0, .int .u8 0, .int .u8 0, .int .u8 0]] w fun e w' => e = .returned (.agg (VI .u8 z)) ∧ Below w.heap.size w w') := hz ▸ fun w => shared_nil hk kk9 w
  have HK : Hid (∀ w, Calls Try.prog 16 #[] w fun e w' => e = .returned (.bool true) ∧ Below w.heap.size w w') := known_any
  have ls : shlog.length ≤ 1000000 := by rw [shlog_len]; decide
  have LS : Hid (shlog.length ≤ 1000000) := ls
  have EQZ := fun w => eqK LZ.out w
  have hE := (ev_nil' w).new (bxK k)
  obtain ⟨W0, hW⟩ : ∃ W, w.alloc (.cells (VI .u8 k) 23) = W := ⟨_, rfl⟩
  rw [show w.alloc (bxK k) = W0 from hW] at hE
  have X0 : Hid (Ev w.heap.size w (.pointer none) [] [(w.heap.size, bxK k)] W0) := hE
  clear hE hk hz ls
  go_enter Try.func4, Try.ntmps4
  go_wp2_with fail
  clear hW
  refine (new_any _).mono ?_
  rintro e W1 ⟨rfl, hW1⟩
  have hN := X0.out.new bxR
  have hF := X0.out.fresh
  rw [show W0.alloc bxR = W1 from hW1.symm] at hN
  obtain ⟨gr, hg⟩ : ∃ g, W0.heap.size = g := ⟨_, rfl⟩
  rw [hg] at hN hF
  try simp only [hg]
  have hM := hN.sub (by' := [(w.heap.size, bxK k)]) (fun p hp => List.mem_cons_of_mem _ hp)
  have X1 : Hid (Ev w.heap.size w (.pointer (some ⟨gr, 0, none⟩)) [] [(w.heap.size, bxK k)] W1) := ev_switch hM.old hM.le (hN.row (g := gr) (x := bxR) (by simp)) (hN.ge (gr, bxR) (by simp)) hM.ge hM.at' hF
  clear hN hF hg hW1 X0 hM
  go_wp2_with (with_reducible refine at_list ?_; first | (refine wpList_load_row rfl 23 (.tmp 1) rfl w.heap.size rfl 23 (VI .u8 k) (0, 0) _ (X1.out.row (g := w.heap.size) (x := bxK k) (by simp)) Try.underlying23 rfl (infoK LK.out) ?_))
  refine (CP.out _ _ _ _ _ X1.out).mono ?_
  rintro e W2 ⟨rfl, hN⟩
  have X2 : Hid (Ev w.heap.size w (.pointer (some ⟨gr, 0, none⟩)) shlog [(w.heap.size, bxK k)] W2) := hN
  clear hN X1 CP
  go_wp2_with (with_reducible refine at_list ?_; refine hold_store 23 (.tmp 4) (.tmp 8) rfl ?_)
  refine store_row_new rfl 23 (.tmp 4) (.tmp 8) rfl W2.heap.size (VI .u8 z) rfl rfl rfl 23 (VI .u8 (List.replicate 32 0)) (infoK LZ.out) (by rw [VI_size, VI_size, LZ.out]; rfl) (VI_one _ _) ?_
  have hN := X2.out.new (bxK z)
  obtain ⟨W3, hW⟩ : ∃ W, W2.alloc (bxK z) = W := ⟨_, rfl⟩
  rw [hW] at hN
  rw [show W2.alloc (.cells (VI .u8 z) 23) = W3 from hW]
  obtain ⟨gg, hg⟩ : ∃ g, W2.heap.size = g := ⟨_, rfl⟩
  rw [hg] at hN
  try simp only [hg]
  have X3 : Hid (Ev w.heap.size w (.pointer (some ⟨gr, 0, none⟩)) shlog [(gg, bxK z), (w.heap.size, bxK k)] W3) := hN
  clear hN hg hW X2
  go_wp2_with fail
  refine wp_region_held_drew (S := fun Y => Ev w.heap.size w (.pointer (some ⟨gr, 0, none⟩)) shlog [(gg, bxK z), (w.heap.size, bxK k)] Y) (by kernel_rfl) X3.out.drew (fun hH => ?_)
  clear X3
  refine wpAnyH_take (i := 0) (v := .agg (VI .u8 z)) rfl (by kernel_rfl) (by kernel_rfl) (by kernel_rfl) (fun _ _ _ h => h) (yieldsIf_load_row (by kernel_rfl) 23 (.tmp 4) rfl (gg) (by kernel_rfl) 23 (VI .u8 z) (0, 0) _ (fun Y hY => hY.row (g := gg) (x := bxK z) (by simp)) Try.underlying23 rfl (infoK LZ.out)) hH ?_
  try simp only [Act.put, List.getElem_toArray, List.getElem_cons_succ, List.getElem_cons_zero, List.getElem?_toArray, List.getElem?_cons_succ, List.getElem?_cons_zero, List.setIfInBounds_toArray, List.set_cons_zero, List.set_cons_succ]
  refine wpAnyH_take (i := 1) (v := .agg (VI .u8 k)) rfl (by kernel_rfl) (by kernel_rfl) (by kernel_rfl) (fun _ _ _ h => h) (yieldsIf_load_row (by kernel_rfl) 23 (.tmp 1) rfl (w.heap.size) (by kernel_rfl) 23 (VI .u8 k) (0, 0) _ (fun Y hY => hY.row (g := w.heap.size) (x := bxK k) (by simp)) Try.underlying23 rfl (infoK LK.out)) hH ?_
  try simp only [Act.put, List.getElem_toArray, List.getElem_cons_succ, List.getElem_cons_zero, List.getElem?_toArray, List.getElem?_cons_succ, List.getElem?_cons_zero, List.setIfInBounds_toArray, List.set_cons_zero, List.set_cons_succ]
  refine wpAnyH_ready (rs := [2]) (by kernel_rfl) (by simp) (AllReadyH.cons rfl (fun K' hK => ?_) AllReadyH.nil)
  refine if_pos_mpr (by kernel_rfl) ?_
  go_simp
  refine (CR.out _).mono ?_
  rintro e V2 ⟨rfl, hb⟩
  have hN := hH.below hb
  clear hb hH
  go_wp2_with fail
  refine hK.out _ _ (hN) (fun hH => ?_)
  clear hK K'
  try simp only [Act.put, List.getElem_toArray, List.getElem_cons_succ, List.getElem_cons_zero, List.getElem?_toArray, List.getElem?_cons_succ, List.getElem?_cons_zero, List.setIfInBounds_toArray, List.set_cons_zero, List.set_cons_succ]
  clear hN
  refine wpAnyH_take (i := 3) (v := .bool true) rfl (by kernel_rfl) (by kernel_rfl) (by kernel_rfl) (fun _ _ _ h => h) (Or.inl ⟨by kernel_rfl, fun W hW => ?_⟩) hH ?_
  · go_simp
  try simp only [Act.put, List.getElem_toArray, List.getElem_cons_succ, List.getElem_cons_zero, List.getElem?_toArray, List.getElem?_cons_succ, List.getElem?_cons_zero, List.setIfInBounds_toArray, List.set_cons_zero, List.set_cons_succ]
  refine wpAnyH_take (i := 4) (v := .bool true) rfl (by kernel_rfl) (by kernel_rfl) (by kernel_rfl) (fun _ _ _ h => h) (Or.inl ⟨by kernel_rfl, fun W hW => ?_⟩) hH ?_
  · go_simp
  try simp only [Act.put, List.getElem_toArray, List.getElem_cons_succ, List.getElem_cons_zero, List.getElem?_toArray, List.getElem?_cons_succ, List.getElem?_cons_zero, List.setIfInBounds_toArray, List.set_cons_zero, List.set_cons_succ]
  refine wpAnyH_take (i := 5) (v := .agg (VI .u8 z)) rfl (by kernel_rfl) (by kernel_rfl) (by kernel_rfl) (fun _ _ _ h => h) (yieldsIf_load_row (by kernel_rfl) 23 (.tmp 4) rfl (gg) (by kernel_rfl) 23 (VI .u8 z) (0, 0) _ (fun Y hY => hY.row (g := gg) (x := bxK z) (by simp)) Try.underlying23 rfl (infoK LZ.out)) hH ?_
  try simp only [Act.put, List.getElem_toArray, List.getElem_cons_succ, List.getElem_cons_zero, List.getElem?_toArray, List.getElem?_cons_succ, List.getElem?_cons_zero, List.setIfInBounds_toArray, List.set_cons_zero, List.set_cons_succ]
  refine wpAnyH_take (i := 6) (v := .agg (VI .u8 k)) rfl (by kernel_rfl) (by kernel_rfl) (by kernel_rfl) (fun _ _ _ h => h) (yieldsIf_load_row (by kernel_rfl) 23 (.tmp 1) rfl (w.heap.size) (by kernel_rfl) 23 (VI .u8 k) (0, 0) _ (fun Y hY => hY.row (g := w.heap.size) (x := bxK k) (by simp)) Try.underlying23 rfl (infoK LK.out)) hH ?_
  try simp only [Act.put, List.getElem_toArray, List.getElem_cons_succ, List.getElem_cons_zero, List.getElem?_toArray, List.getElem?_cons_succ, List.getElem?_cons_zero, List.setIfInBounds_toArray, List.set_cons_zero, List.set_cons_succ]
  refine wpAnyH_take (i := 7) (v := .agg #[.int .u8 9, .int .u8 0, .int .u8 0, .int .u8 0, .int .u8 0, .int .u8 0, .int .u8 0, .int .u8 0, .int .u8 0, .int .u8 0, .int .u8 0, .int .u8 0, .int .u8 0, .int .u8 0, .int .u8 0, .int .u8 0, .int .u8 0, .int .u8 0, .int .u8 0, .int .u8 0, .int .u8 0, .int .u8 0, .int .u8 0, .int .u8 0, .int .u8 0, .int .u8 0, .int .u8 0, .int .u8 0, .int .u8 0, .int .u8 0, .int .u8 0, .int .u8 0]) rfl (by kernel_rfl) (by kernel_rfl) (by kernel_rfl) (fun _ _ _ h => h) (Or.inl ⟨by kernel_rfl, fun W hW => ?_⟩) hH ?_
  · go_simp
  try simp only [Act.put, List.getElem_toArray, List.getElem_cons_succ, List.getElem_cons_zero, List.getElem?_toArray, List.getElem?_cons_succ, List.getElem?_cons_zero, List.setIfInBounds_toArray, List.set_cons_zero, List.set_cons_succ]
  refine wpAnyH_ready (rs := [8]) (by kernel_rfl) (by simp) (AllReadyH.cons rfl (fun K' hK => ?_) AllReadyH.nil)
  refine if_pos_mpr (by kernel_rfl) ?_
  go_simp
  refine (CS.out _).mono ?_
  rintro e V8 ⟨rfl, hb⟩
  have hN := hH.below hb
  clear hb hH
  go_wp2_with fail
  refine hK.out _ _ (hN) (fun hH => ?_)
  clear hK K'
  try simp only [Act.put, List.getElem_toArray, List.getElem_cons_succ, List.getElem_cons_zero, List.getElem?_toArray, List.getElem?_cons_succ, List.getElem?_cons_zero, List.setIfInBounds_toArray, List.set_cons_zero, List.set_cons_succ]
  clear hN
  refine wpAnyH_take (i := 9) (v := .bool true) rfl (by kernel_rfl) (by kernel_rfl) (by kernel_rfl) (fun _ _ _ h => h) (Or.inl ⟨by kernel_rfl, fun W hW => ?_⟩) hH ?_
  · go_simp
  try simp only [Act.put, List.getElem_toArray, List.getElem_cons_succ, List.getElem_cons_zero, List.getElem?_toArray, List.getElem?_cons_succ, List.getElem?_cons_zero, List.setIfInBounds_toArray, List.set_cons_zero, List.set_cons_succ]
  refine wpAnyH_take (i := 10) (v := .bool true) rfl (by kernel_rfl) (by kernel_rfl) (by kernel_rfl) (fun _ _ _ h => h) (Or.inl ⟨by kernel_rfl, fun W hW => ?_⟩) hH ?_
  · go_simp
  try simp only [Act.put, List.getElem_toArray, List.getElem_cons_succ, List.getElem_cons_zero, List.getElem?_toArray, List.getElem?_cons_succ, List.getElem?_cons_zero, List.setIfInBounds_toArray, List.set_cons_zero, List.set_cons_succ]
  refine wpAnyH_take (i := 11) (v := .bool true) rfl (by kernel_rfl) (by kernel_rfl) (by kernel_rfl) (fun _ _ _ h => h) (Or.inl ⟨by kernel_rfl, fun W hW => ?_⟩) hH ?_
  · go_simp
  try simp only [Act.put, List.getElem_toArray, List.getElem_cons_succ, List.getElem_cons_zero, List.getElem?_toArray, List.getElem?_cons_succ, List.getElem?_cons_zero, List.setIfInBounds_toArray, List.set_cons_zero, List.set_cons_succ]
  refine wpAnyH_take (i := 12) (v := .pointer (some ⟨gr, 0, none⟩)) rfl (by kernel_rfl) (by kernel_rfl) (by kernel_rfl) (fun _ _ _ h => h) (Or.inl ⟨by kernel_rfl, fun W hW => ?_⟩) hH ?_
  · go_simp
  try simp only [Act.put, List.getElem_toArray, List.getElem_cons_succ, List.getElem_cons_zero, List.getElem?_toArray, List.getElem?_cons_succ, List.getElem?_cons_zero, List.setIfInBounds_toArray, List.set_cons_zero, List.set_cons_succ]
  refine wpAnyH_ready (rs := [13]) (by kernel_rfl) (by simp) (AllReadyH.cons rfl (fun K' hK => ?_) AllReadyH.nil)
  refine if_pos_mpr (by kernel_rfl) ?_
  go_simp
  obtain ⟨vr, hr, _⟩ := hH.recOf
  refine (tEvents_any _ vr shlog LS.out _ hr.opt).mono ?_
  rintro e V13 ⟨l1, rfl, hl1, hb⟩
  have hN := hH.below hb
  have L1 : Hid (Sl V13 l1 2 (evC shlog) shlog.length) := sl_of_owns hl1
  clear hb hH hr hl1
  go_wp2_with fail
  refine hK.out _ _ (hN) (fun hH => ?_)
  clear hK K'
  try simp only [Act.put, List.getElem_toArray, List.getElem_cons_succ, List.getElem_cons_zero, List.getElem?_toArray, List.getElem?_cons_succ, List.getElem?_cons_zero, List.setIfInBounds_toArray, List.set_cons_zero, List.set_cons_succ]
  clear hN
  refine wpAnyH_ready (rs := [14]) (by kernel_rfl) (by simp) (AllReadyH.cons rfl (fun K' hK => ?_) AllReadyH.nil)
  refine if_pos_mpr (by kernel_rfl) ?_
  go_simp
  refine (revents_any _).mono ?_
  rintro e V14 ⟨l2, rfl, hl2, hb⟩
  have hN := hH.below hb
  have L1' : Hid (Sl V14 l1 2 (evC shlog) shlog.length) := sl_below hb L1.out
  have L2 : Hid (Sl V14 l2 2 (evC shlog) shlog.length) := sl_of_owns hl2
  clear hb hH hl2 L1
  go_wp2_with fail
  refine hK.out _ _ (hN) (fun hH => ?_)
  clear hK K'
  try simp only [Act.put, List.getElem_toArray, List.getElem_cons_succ, List.getElem_cons_zero, List.getElem?_toArray, List.getElem?_cons_succ, List.getElem?_cons_zero, List.setIfInBounds_toArray, List.set_cons_zero, List.set_cons_succ]
  clear hN
  refine wpAnyH_ready (rs := [15]) (by kernel_rfl) (by simp) (AllReadyH.cons rfl (fun K' hK => ?_) AllReadyH.nil)
  refine if_pos_mpr (by kernel_rfl) ?_
  go_simp
  refine (events_any _ _ shlog shlog _ L1'.out L2.out (Nat.le_trans LS.out (by decide))).mono ?_
  rintro e V15 ⟨rfl, n15, rfl⟩
  rw [beq_self_eq_true]
  have hN := hH.below (below_drewN' (Below.refl _ _) n15)
  obtain ⟨V15, hV⟩ : ∃ W, V14.drewN n15 = W := ⟨_, rfl⟩
  rw [hV] at hN ⊢
  clear hV hH L1' L2
  go_wp2_with fail
  refine hK.out _ _ (hN) (fun hH => ?_)
  clear hK K'
  try simp only [Act.put, List.getElem_toArray, List.getElem_cons_succ, List.getElem_cons_zero, List.getElem?_toArray, List.getElem?_cons_succ, List.getElem?_cons_zero, List.setIfInBounds_toArray, List.set_cons_zero, List.set_cons_succ]
  clear hN
  refine wpAnyH_take (i := 16) (v := .bool true) rfl (by kernel_rfl) (by kernel_rfl) (by kernel_rfl) (fun _ _ _ h => h) (Or.inl ⟨by kernel_rfl, fun W hW => ?_⟩) hH ?_
  · go_simp
  try simp only [Act.put, List.getElem_toArray, List.getElem_cons_succ, List.getElem_cons_zero, List.getElem?_toArray, List.getElem?_cons_succ, List.getElem?_cons_zero, List.setIfInBounds_toArray, List.set_cons_zero, List.set_cons_succ]
  refine wpAnyH_take (i := 17) (v := .bool true) rfl (by kernel_rfl) (by kernel_rfl) (by kernel_rfl) (fun _ _ _ h => h) (Or.inl ⟨by kernel_rfl, fun W hW => ?_⟩) hH ?_
  · go_simp
  try simp only [Act.put, List.getElem_toArray, List.getElem_cons_succ, List.getElem_cons_zero, List.getElem?_toArray, List.getElem?_cons_succ, List.getElem?_cons_zero, List.setIfInBounds_toArray, List.set_cons_zero, List.set_cons_succ]
  refine wpAnyH_ready (rs := [18]) (by kernel_rfl) (by simp) (AllReadyH.cons rfl (fun K' hK => ?_) AllReadyH.nil)
  refine if_pos_mpr (by kernel_rfl) ?_
  go_simp
  refine (HK.out _).mono ?_
  rintro e V18 ⟨rfl, hb⟩
  have hN := hH.below hb
  clear hb hH
  go_wp2_with fail
  refine hK.out _ _ (hN) (fun hH => ?_)
  clear hK K'
  try simp only [Act.put, List.getElem_toArray, List.getElem_cons_succ, List.getElem_cons_zero, List.getElem?_toArray, List.getElem?_cons_succ, List.getElem?_cons_zero, List.setIfInBounds_toArray, List.set_cons_zero, List.set_cons_succ]
  clear hN
  refine wpAnyH_take (i := 19) (v := .bool true) rfl (by kernel_rfl) (by kernel_rfl) (by kernel_rfl) (fun _ _ _ h => h) (Or.inl ⟨by kernel_rfl, fun W hW => ?_⟩) hH ?_
  · go_simp
  try simp only [Act.put, List.getElem_toArray, List.getElem_cons_succ, List.getElem_cons_zero, List.getElem?_toArray, List.getElem?_cons_succ, List.getElem?_cons_zero, List.setIfInBounds_toArray, List.set_cons_zero, List.set_cons_succ]
  have XF : Hid _ := hH
  refine wpAnyH_ready (rs := [20]) (by kernel_rfl) (by simp) (AllReadyH.cons rfl (fun K' hK => ?_) AllReadyH.nil)
  refine if_pos_mpr (by kernel_rfl) ?_
  go_simp
  refine hK.out _ _ hH (fun hH => ?_)
  clear hK K'
  try simp only [Act.put, List.getElem_toArray, List.getElem_cons_succ, List.getElem_cons_zero, List.getElem?_toArray, List.getElem?_cons_succ, List.getElem?_cons_zero, List.setIfInBounds_toArray, List.set_cons_zero, List.set_cons_succ]
  refine wpAnyH_done (by kernel_rfl) ?_ _
  go_wp2
  go_ret
  exact ⟨rfl, XF.out.old⟩
end Go.Proofs.Ytlffamcifahbjaa
