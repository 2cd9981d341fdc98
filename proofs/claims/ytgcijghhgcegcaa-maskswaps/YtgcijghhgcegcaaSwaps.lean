import Derived.Test.YtgcijghhgcegcaaKnown
import Derived.Test.YtgcijghhgcegcaaLift
namespace Go.Proofs.Ytgcijghhgcegcaa
open Go.ChangeShapes Go.WideShapes Go.ChangeAt Go.RowKit Go.Pin
/-- what the law knows of its four rows: the two arguments and the two copies -/
structure SS (n : Nat) (a b x y : List Int) (W : World) : Prop where
  size : n + 4 ≤ W.heap.size
  a : W.heap[n]? = some (.cells (VI .u64 a) 37 (0, 0))
  b : W.heap[n + 1]? = some (.cells (VI .u64 b) 37 (0, 0))
  x : W.heap[n + 1 + 1]? = some (.cells (VI .u64 x) 37 (0, 0))
  y : W.heap[n + 1 + 1 + 1]? = some (.cells (VI .u64 y) 37 (0, 0))
theorem SS.sw {n : Nat} {a b x y x' y' : List Int} {W W' : World} (h : SS n a b x y W) (hs : SW (n + 1 + 1) (n + 1 + 1 + 1) W W' x' y') : SS n a b x' y' W' :=
  ⟨by rw [hs.but.size]; exact h.size, (hs.but.block n (by omega)).trans h.a, (hs.but.block (n + 1) (by omega)).trans h.b, hs.a, hs.b⟩
theorem SS.one {n : Nat} {a b x y : List Int} {W W' : World} (h : SS n a b x y W) (hs : SW (n + 1 + 1) (n + 1 + 1) W W' x x) : SS n a b x y W' :=
  ⟨by rw [hs.but.size]; exact h.size, (hs.but.block n (by omega)).trans h.a, (hs.but.block (n + 1) (by omega)).trans h.b, hs.a, (hs.but.block (n + 1 + 1 + 1) (by omega)).trans h.y⟩
theorem at_list {P : Program} {ops : Array Oper} {rest : List Oper} {o : Oper} {a : Act} {w : World} {Q : Exit → Act → World → Prop} (h : wpList P ops Q (o :: rest) a w) : wpList P ops Q (o :: rest) a w := h
theorem load_at {P : Program} {ops : Array Oper} {rest : List Oper} {o : Oper} {a : Act} {w : World} {Q : Exit → Act → World → Prop} (ty : TypeId) (x : Operand) (ho : o.op = .load ty x) (hw : Region.wanted o (yielded ops a.tmps) = true)
    (g : Nat) (hx : a.eval x = .pointer (some ⟨g, 0, none⟩)) (t : TypeId) (cs : Array Value) (fr : Nat × Nat) (d : TypeDesc) (hg : w.heap[g]? = some (.cells cs t fr))
    (hu : P.underlying ty = some d) (hd : (match d with | .struct _ | .array _ _ => true | _ => false) = true) (hi : (P.info? ty).map (·.size) = some cs.size)
    (h : wpList P ops Q rest (a.put o.dst (.agg cs)) w) : wpList P ops Q (o :: rest) a w :=
  load_row_w hw ty x ho g hx t cs fr d hg hu hd hi h
set_option maxRecDepth 100000 in
set_option maxHeartbeats 1000000 in
theorem swaps_walk (s : Int) (a b : List Int) (s0 : 0 ≤ s) (s1 : s < 18446744073709551616) (ha : a.length = 5) (hb : b.length = 5)
    (wa : ∀ x ∈ a, 0 ≤ x ∧ x < 18446744073709551616) (wb : ∀ x ∈ b, 0 ≤ x ∧ x < 18446744073709551616) (w : World) :
    Calls Try.prog 5 #[.int .u64 s, .agg (VI .u64 a), .agg (VI .u64 b)] w fun e w' => e = .returned (.bool true) ∧ Below w.heap.size w w' := by
  obtain ⟨a0, a1, a2, a3, a4, rfl⟩ : ∃ a0 a1 a2 a3 a4, a = [a0, a1, a2, a3, a4] := by
    match a, ha with
    | [a0, a1, a2, a3, a4], _ => exact ⟨a0, a1, a2, a3, a4, rfl⟩
  obtain ⟨b0, b1, b2, b3, b4, rfl⟩ : ∃ b0 b1 b2 b3 b4, b = [b0, b1, b2, b3, b4] := by
    match b, hb with
    | [b0, b1, b2, b3, b4], _ => exact ⟨b0, b1, b2, b3, b4, rfl⟩
  have HA : Hid _ := And.intro ha (And.intro hb (And.intro wa wb))
  clear ha hb wa wb
  rw [show VI .u64 [a0, a1, a2, a3, a4] = #[.int .u64 a0, .int .u64 a1, .int .u64 a2, .int .u64 a3, .int .u64 a4] from rfl]
  rw [show VI .u64 [b0, b1, b2, b3, b4] = #[.int .u64 b0, .int .u64 b1, .int .u64 b2, .int .u64 b3, .int .u64 b4] from rfl]
  go_enter Try.func5, Try.ntmps5
  go_wp2_with fail
  generalize hW : World.alloc _ _ = W
  have h1 : Below w.heap.size w W := by
    rw [← hW]
    exact ((((Below.refl _ _).alloc (Nat.le_refl _) _).alloc (by simp) _).alloc (by simp; omega) _).alloc (by simp; omega) _
  have h5 : SS w.heap.size [a0, a1, a2, a3, a4] [b0, b1, b2, b3, b4] [a0, a1, a2, a3, a4] [b0, b1, b2, b3, b4] W := by
    refine ⟨by rw [← hW]; simp, ?_, ?_, ?_, ?_⟩
    · rw [← hW, heap_alloc_any, if_neg (by simp; omega)]; exact heap3_0 _ _ _ _
    · rw [← hW, heap_alloc_any, if_neg (by simp)]; exact heap3_1 _ _ _ _
    · rw [← hW, heap_alloc_any, if_neg (by simp)]; exact heap3_2 _ _ _ _
    · rw [← hW, heap_alloc_any, if_pos (by simp)]; rfl
  clear hW
  obtain ⟨ha, hb, wa, wb⟩ := HA.out
  have he := sw_eq s s0 s1 _ _ 5 ha hb wa wb
  have he2 := sw_eq s s0 s1 _ _ 5 hb ha wb wa
  refine (swap_two s _ _ (by omega) _ _ rfl rfl W ⟨But.refl _ _, h5.x, h5.y⟩).mono ?_
  rintro e W1 ⟨rfl, hs⟩
  have hB1 : Below w.heap.size w W1 := h1.trans (hs.but.below (fun k hk => by omega))
  have hS1 := h5.sw hs
  rw [he] at hS1
  clear h1 h5 hs
  generalize [a0, a1, a2, a3, a4] = A at *
  generalize [b0, b1, b2, b3, b4] = B at *
  have HIa : Hid ((Try.prog.info? 37).map (·.size) = some (VI .u64 A).size) := by rw [VI_size, ha]; exact info37
  have HIb : Hid ((Try.prog.info? 37).map (·.size) = some (VI .u64 B).size) := by rw [VI_size, hb]; exact info37
  have qa : ∀ w, (Op.equalIn 10000 37 (.agg (VI .u64 A)) (.agg (VI .u64 A))).run Try.prog w = .ok true w := fun w => by
    have := run_equalIn_row (P := Try.prog) w 9998 37 22 .u64 5 A A ha ha Try.underlying37 Try.underlying22 size22
    rw [beq_self_eq_true] at this
    exact this
  have qb : ∀ w, (Op.equalIn 10000 37 (.agg (VI .u64 B)) (.agg (VI .u64 B))).run Try.prog w = .ok true w := fun w => by
    have := run_equalIn_row (P := Try.prog) w 9998 37 22 .u64 5 B B hb hb Try.underlying37 Try.underlying22 size22
    rw [beq_self_eq_true] at this
    exact this
  have He : Hid _ := he
  have He2 : Hid _ := he2
  clear ha hb wa wb he he2
  by_cases hpar : s % 2 = 1
  · rw [if_pos hpar] at hS1
    have H1 : Hid _ := hS1
    have HB1 : Hid _ := hB1
    clear hS1 hB1
    go_wp2_with (with_reducible refine at_list ?_; first | (refine load_at 37 (.tmp 4) rfl rfl _ rfl 37 (VI .u64 A) (0, 0) _ H1.out.a Try.underlying37 rfl HIa.out ?_) | (refine load_at 37 (.tmp 5) rfl rfl _ rfl 37 (VI .u64 B) (0, 0) _ H1.out.b Try.underlying37 rfl HIb.out ?_) | (refine load_at 37 (.tmp 7) rfl rfl _ rfl 37 (VI .u64 B) (0, 0) _ H1.out.x Try.underlying37 rfl HIb.out ?_) | (refine load_at 37 (.tmp 8) rfl rfl _ rfl 37 (VI .u64 A) (0, 0) _ H1.out.y Try.underlying37 rfl HIa.out ?_))
    refine (swap_two s _ _ (by omega) B A HA.out.2.1 HA.out.1 W1 ⟨But.refl _ _, H1.out.x, H1.out.y⟩).mono ?_
    rintro e W2 ⟨rfl, hs⟩
    have HB2 : Hid (Below w.heap.size w W2) := HB1.out.trans (hs.but.below (fun k hk => by omega))
    have hS2 := H1.out.sw hs
    rw [He2.out, if_pos hpar] at hS2
    have H2 : Hid _ := hS2
    clear hS2 hs H1 HB1
    go_wp2_with (with_reducible refine at_list ?_; first | (refine load_at 37 (.tmp 4) rfl rfl _ rfl 37 (VI .u64 A) (0, 0) _ H2.out.a Try.underlying37 rfl HIa.out ?_) | (refine load_at 37 (.tmp 5) rfl rfl _ rfl 37 (VI .u64 B) (0, 0) _ H2.out.b Try.underlying37 rfl HIb.out ?_) | (refine load_at 37 (.tmp 7) rfl rfl _ rfl 37 (VI .u64 A) (0, 0) _ H2.out.x Try.underlying37 rfl HIa.out ?_) | (refine load_at 37 (.tmp 8) rfl rfl _ rfl 37 (VI .u64 B) (0, 0) _ H2.out.y Try.underlying37 rfl HIb.out ?_))
    refine (swap_one s s0 s1 _ A HA.out.1 HA.out.2.2.1 W2 ⟨But.refl _ _, H2.out.x, H2.out.x⟩).mono ?_
    rintro e W3 ⟨rfl, hs⟩
    have HB3 : Hid (Below w.heap.size w W3) := HB2.out.trans (hs.but.below (fun k hk => by omega))
    have H3 : Hid _ := H2.out.one hs
    clear hs H2 HB2
    go_wp2_with fail
    refine (swap_nil1 s _ W3).mono ?_
    rintro e W4 ⟨rfl, hw⟩
    subst hw
    go_wp2_with fail
    refine (swap_nil2 s _ _).mono ?_
    rintro e W5 ⟨rfl, hw⟩
    subst hw
    go_wp2_with fail
    refine (swap_nil1 s _ _).mono ?_
    rintro e W6 ⟨rfl, hw⟩
    subst hw
    go_wp2_with (with_reducible refine at_list ?_; first | (refine load_at 37 (.tmp 4) rfl rfl _ rfl 37 (VI .u64 A) (0, 0) _ H3.out.a Try.underlying37 rfl HIa.out ?_) | (refine load_at 37 (.tmp 5) rfl rfl _ rfl 37 (VI .u64 B) (0, 0) _ H3.out.b Try.underlying37 rfl HIb.out ?_) | (refine load_at 37 (.tmp 7) rfl rfl _ rfl 37 (VI .u64 A) (0, 0) _ H3.out.x Try.underlying37 rfl HIa.out ?_) | (refine load_at 37 (.tmp 8) rfl rfl _ rfl 37 (VI .u64 B) (0, 0) _ H3.out.y Try.underlying37 rfl HIb.out ?_))
    refine (known_any _).mono ?_
    rintro e W7 ⟨rfl, hb7⟩
    have HB7 : Hid (Below w.heap.size w W7) := HB3.out.trans (hb7.mono (by have := H3.out.size; omega))
    clear hb7
    go_wp2
    go_ret
    exact ⟨rfl, HB7.out⟩
  · rw [if_neg hpar] at hS1
    have H1 : Hid _ := hS1
    have HB1 : Hid _ := hB1
    clear hS1 hB1
    have hpar' : s % 2 = 0 := by omega
    go_wp2_with (with_reducible refine at_list ?_; first | (refine load_at 37 (.tmp 4) rfl rfl _ rfl 37 (VI .u64 A) (0, 0) _ H1.out.a Try.underlying37 rfl HIa.out ?_) | (refine load_at 37 (.tmp 5) rfl rfl _ rfl 37 (VI .u64 B) (0, 0) _ H1.out.b Try.underlying37 rfl HIb.out ?_) | (refine load_at 37 (.tmp 7) rfl rfl _ rfl 37 (VI .u64 A) (0, 0) _ H1.out.x Try.underlying37 rfl HIa.out ?_) | (refine load_at 37 (.tmp 8) rfl rfl _ rfl 37 (VI .u64 B) (0, 0) _ H1.out.y Try.underlying37 rfl HIb.out ?_))
    refine (swap_two s _ _ (by omega) A B HA.out.1 HA.out.2.1 W1 ⟨But.refl _ _, H1.out.x, H1.out.y⟩).mono ?_
    rintro e W2 ⟨rfl, hs⟩
    have HB2 : Hid (Below w.heap.size w W2) := HB1.out.trans (hs.but.below (fun k hk => by omega))
    have hS2 := H1.out.sw hs
    rw [He.out, if_neg hpar] at hS2
    have H2 : Hid _ := hS2
    clear hS2 hs H1 HB1
    go_wp2_with (with_reducible refine at_list ?_; first | (refine load_at 37 (.tmp 4) rfl rfl _ rfl 37 (VI .u64 A) (0, 0) _ H2.out.a Try.underlying37 rfl HIa.out ?_) | (refine load_at 37 (.tmp 5) rfl rfl _ rfl 37 (VI .u64 B) (0, 0) _ H2.out.b Try.underlying37 rfl HIb.out ?_) | (refine load_at 37 (.tmp 7) rfl rfl _ rfl 37 (VI .u64 A) (0, 0) _ H2.out.x Try.underlying37 rfl HIa.out ?_) | (refine load_at 37 (.tmp 8) rfl rfl _ rfl 37 (VI .u64 B) (0, 0) _ H2.out.y Try.underlying37 rfl HIb.out ?_))
    refine (swap_one s s0 s1 _ A HA.out.1 HA.out.2.2.1 W2 ⟨But.refl _ _, H2.out.x, H2.out.x⟩).mono ?_
    rintro e W3 ⟨rfl, hs⟩
    have HB3 : Hid (Below w.heap.size w W3) := HB2.out.trans (hs.but.below (fun k hk => by omega))
    have H3 : Hid _ := H2.out.one hs
    clear hs H2 HB2
    go_wp2_with fail
    refine (swap_nil1 s _ W3).mono ?_
    rintro e W4 ⟨rfl, hw⟩
    subst hw
    go_wp2_with fail
    refine (swap_nil2 s _ _).mono ?_
    rintro e W5 ⟨rfl, hw⟩
    subst hw
    go_wp2_with fail
    refine (swap_nil1 s _ _).mono ?_
    rintro e W6 ⟨rfl, hw⟩
    subst hw
    go_wp2_with (with_reducible refine at_list ?_; first | (refine load_at 37 (.tmp 4) rfl rfl _ rfl 37 (VI .u64 A) (0, 0) _ H3.out.a Try.underlying37 rfl HIa.out ?_) | (refine load_at 37 (.tmp 5) rfl rfl _ rfl 37 (VI .u64 B) (0, 0) _ H3.out.b Try.underlying37 rfl HIb.out ?_) | (refine load_at 37 (.tmp 7) rfl rfl _ rfl 37 (VI .u64 A) (0, 0) _ H3.out.x Try.underlying37 rfl HIa.out ?_) | (refine load_at 37 (.tmp 8) rfl rfl _ rfl 37 (VI .u64 B) (0, 0) _ H3.out.y Try.underlying37 rfl HIb.out ?_))
    refine (known_any _).mono ?_
    rintro e W7 ⟨rfl, hb7⟩
    have HB7 : Hid (Below w.heap.size w W7) := HB3.out.trans (hb7.mono (by have := H3.out.size; omega))
    clear hb7
    go_wp2
    go_ret
    exact ⟨rfl, HB7.out⟩
theorem b64 {x : Int} (h : (Lit.int .u64 x).wf = true) : 0 ≤ x ∧ x < 18446744073709551616 := by
  have := bounds_u64 h
  omega

set_option maxRecDepth 100000 in
theorem swaps_lifted (os : Os) (started : os.Started) (H : Type) (enc : TypeId × Value → H) :
    ReturnsInHanded {} Try.checked os 5 .any (Rows.maskSwapsSpec.pre6 enc Try.prog Try.f5 Rows.maskSwapsRow.domain false) (Rows.maskSwapsSpec.post enc Try.prog Try.f5 false true false false) := by
  refine returnsInHanded_of_change (C := Try.checked) own started (by kernel_rfl) Try.func5
    (ChangeSpec.witness6 (enc := enc) (C := Try.checked) false ⟨#[], #[.int .u64 0, .agg (Array.replicate 5 (.int .u64 0)), .agg (Array.replicate 5 (.int .u64 0))], []⟩ 8 (by kernel_rfl) (by kernel_rfl) (by kernel_rfl) (by kernel_rfl)) ?_
  intro W base args ds gs before hval0 hW hcnd _
  have hval : ∀ (j : Nat) t v, Try.f5.params[j]? = some t → args[j]? = some v → Value.okWide Try.prog W .any base t v := hval0
  have hW' := hW
  obtain ⟨p, q, hA0, hV, rfl, hfz, hnd⟩ := hW
  have hA : DataW.TrodAll enc Try.prog W 0 (fun _ => true) true Try.f5.params.toList args.toList ds p := hA0
  rw [Try.params5] at hA hval
  have hAll := fun W' (hb : Below W.heap.size W W') => trodAll_below laidOut hb _ _ _ _ (by kernel_rfl) hA
  obtain ⟨v0, vs0, d0, ds0, p0, q0, hargs, rfl, rfl, h0, r0⟩ := trodAll_cons hA
  obtain ⟨v1, vs1, d1, ds1, p1, q1, rfl, rfl, rfl, h1, r1⟩ := trodAll_cons r0
  obtain ⟨v2, vs2, d2, ds2, p2, q2, rfl, rfl, rfl, h2, r2⟩ := trodAll_cons r1
  obtain ⟨rfl, rfl, rfl⟩ := trodAll_nil r2
  obtain rfl : args = #[v0, v1, v2] := by cases args; simp_all
  obtain ⟨rfl, rfl⟩ := trodVars_none hV
  obtain ⟨a0, rfl, rfl, rfl, w0⟩ := open_int Try.underlying22 (hval 0 22 v0 rfl rfl) h0
  obtain ⟨l1, rfl, n1, w1⟩ := open_row Try.underlying37 Try.underlying22 (by kernel_rfl) (by kernel_rfl) (hval 1 37 v1 rfl rfl) h1
  obtain ⟨l2, rfl, n2, w2⟩ := open_row Try.underlying37 Try.underlying22 (by kernel_rfl) (by kernel_rfl) (hval 2 37 v2 rfl rfl) h2
  clear hA0 hval0
  refine (swaps_walk a0 l1 l2 (b64 w0).1 (b64 w0).2 n1 n2 (fun x hx => b64 (w1 x hx)) (fun x hx => b64 (w2 x hx)) W).mono fun e W' ⟨he, bel⟩ => ?_
  subst he
  exact ⟨_, rfl, _, _, _, [], _, [], hW', trodAll_mk1 (shut_bool Try.underlying4 _), hAll W' bel, rfl, bel.frame _, fun h => by cases h⟩

theorem swaps_proved : Rows.MaskSwapsSaid :=
  OpenClaim.holds_of_wide 5 Try.f5 rfl rfl rfl rfl rfl rfl rfl ⟨rfl, rfl, rfl, rfl, rfl⟩ rfl rfl rfl rfl rfl (by kernel_rfl) Try.func5 (by kernel_rfl)
    (of_decide_eq_true (by kernel_rfl)) (by unfold Func.isWrapper; first | (rw [if_pos (by decide +kernel)]; kernel_rfl) | (rw [if_neg (by decide +kernel)]; exact ⟨rfl, rfl⟩))
    (fun os started H enc _ => swaps_lifted os started H enc)
end Go.Proofs.Ytgcijghhgcegcaa
