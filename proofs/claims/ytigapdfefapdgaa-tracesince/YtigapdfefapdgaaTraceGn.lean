import Derived.Test.YtigapdfefapdgaaTraceIt
namespace Go.Proofs.Ytigapdfefapdgaa
set_option linter.unusedSimpArgs false
open Go.ChangeShapes Go.WideShapes Go.ChangeAt Go.RowKit Go.Pin
/-- the box of gone's list -/
def Out (B : Nat) (W : World) (Bo : Nat) (pre : List (Int × Int)) : Prop :=
  ∃ u, Boxed W Bo 25 u ∧ W.ownsRow B 37 2 u pre.length (evC pre)
set_option maxRecDepth 100000 in
set_option maxHeartbeats 1000000 in
theorem gone1_any (B Bo : Nat) (pre : List (Int × Int)) (x1 x2 : Int) (W : World) (hpl : pre.length ≤ 1000000) (h : Out B W Bo pre) (hB : B ≤ W.heap.size) (hBo : B ≤ Bo) :
    Calls Try.prog 40 #[.agg #[.int .i64 x1, .int .i64 x2], .pointer (some ⟨Bo, 0, none⟩)] W fun e W' => e = .returned (.bool (decide (pre.length + 1 ≤ 2000))) ∧ Out B W' Bo (pre ++ [(x1, x2)]) ∧ Below B W W' := by
  obtain ⟨i0, hi, hz0, hz1, hz2⟩ := info_parts info37
  have HI : Hid _ := And.intro hi (And.intro hz0 (And.intro hz1 hz2))
  clear hi hz0 hz1 hz2
  obtain ⟨u, hb, hr⟩ := h
  have HW : Hid (W.ownsRow B 37 2 u pre.length (evC pre)) := hr
  have HO : Hid (Boxed W Bo 25 u) := hb
  have cO := (hb.alloc (.cells #[.int .i64 x1, .int .i64 x2] 37)).cell
  clear hr hb
  go_enter Try.func40, Try.ntmps40
  go_wp2_with (at_builtin; refine wpList_append_own _ rfl _ _ 25 rfl B 37 i0 (.agg #[.int .i64 0, .int .i64 0]) 2 16 Try.underlying25 HI.out.1 HI.out.2.1 HI.out.2.2.1 HI.out.2.2.2 rfl (by decide) _ pre.length (evC pre) rfl ((HW.out.alloc _).alloc _) ⟨W.heap.size + 1, 0, none⟩ 1 1 [.int .i64 x1, .int .i64 x2] rfl rfl ?_ ?_ ?_ ?_ ?_ ?_)
  · intro j u hj
    match j, hj with
    | 0, hj => simp at hj; subst hj; simp [Addr.add]
    | 1, hj => simp at hj; subst hj; simp [Addr.add]
  · intro u hu
    simp at hu
    rcases hu with rfl | rfl <;> rfl
  · unfold maxLen; omega
  · omega
  · simp; omega
  · intro v' w2 hown' hgrow _
    obtain ⟨g', cap', rfl⟩ := ownsRow_succ hown'
    obtain ⟨hv1, hv2, hr2, hk2, hb2⟩ := (HO.out.alloc (.cells #[.int .i64 x1, .int .i64 x2] 37)).appended (by decide) (HW.out.alloc _) (by simp; omega) hBo hown' hgrow
    have hc1 := hv1.cell
    have hf1 := hv1.frozen
    have hc2 := hv2.cell
    have H2 : Hid (_ ∧ _ ∧ _) := ⟨hv2, hr2, hb2⟩
    clear hown' hgrow hv1 hv2 hr2 hk2 hb2
    go_wp2
    go_ret
    obtain ⟨hv2, hr2, hb2⟩ := H2.out
    refine ⟨?_, ⟨_, hv2, by rw [List.length_append, evC_app]; exact hr2⟩, ((Below.refl B W).alloc hB _).trans hb2⟩
    show Ending.returned (.bool (decide ((pre.length : Int) + 1 ≤ 2000))) = _
    have hiff : ((pre.length : Int) + 1 ≤ 2000) ↔ (pre.length + 1 ≤ 2000) := by omega
    rw [decide_eq_decide.2 hiff]
set_option maxRecDepth 100000 in
set_option maxHeartbeats 1000000 in
theorem gone_any (v vs : Value) (n : Int) (l : List (Int × Int)) (hl : l.length ≤ 2000) (w : World) (hr : RecO w v vs l) :
    Calls Try.prog 34 #[v, .int .i64 n] w fun e w' => ∃ u, e = .returned (.tuple #[u, .bool true]) ∧ w'.ownsRow w.heap.size 37 2 u (beh l n).length (evC (beh l n)) ∧ Below w.heap.size w w' := by
  have HR : Hid (RecO w v vs l) := hr
  have hv : ∃ p, v = .pointer p := by rcases hr with ⟨rfl, _⟩ | ⟨_, _, rfl, _⟩ <;> exact ⟨_, rfl⟩
  clear hr
  obtain ⟨p, rfl⟩ := hv
  have hbl : (beh l n).length ≤ 2000 := by unfold beh; rw [List.length_drop]; omega
  have hmf : ∀ (fn : Fn) (first cap : Array Value) (w : World), (Instr.makeFunc fn first cap).run Try.prog w = .ok (.func fn first cap) w := fun _ _ _ _ => rfl
  have hen : ∀ args w, (callFunc 39 args).run Try.prog w = .ok (.enter 39 args) w := enters_of Try.func39 (by kernel_rfl) rfl
  have HC : Hid (Calls Try.prog 39 #[.func (.func 40) #[] #[.pointer (some ⟨w.heap.size, 0, none⟩)], .pointer (some ⟨w.heap.size + 1, 0, none⟩), .pointer (some ⟨w.heap.size + 1 + 1, 0, none⟩)] (((w.alloc (.cells #[.slice none 0 0] 25)).alloc (.cells #[.pointer p] 23)).alloc (.cells #[.int .i64 n] 3)) fun e W' => e = .returned (.tuple #[]) ∧ (Out w.heap.size W' w.heap.size (beh l n) ∧ Below w.heap.size w W')) := by
    have bO := ((Boxed.new w 25 (.slice none 0 0)).alloc (.cells #[.pointer p] 23)).alloc (.cells #[.int .i64 n] 3)
    have bR := (Boxed.new (w.alloc (.cells #[.slice none 0 0] 25)) 23 (.pointer p)).alloc (.cells #[.int .i64 n] 3)
    have bN := Boxed.new ((w.alloc (.cells #[.slice none 0 0] 25)).alloc (.cells #[.pointer p] 23)) 3 (.int .i64 n)
    simp only [World.size_alloc] at bR bN
    have hB0 : Below w.heap.size w (((w.alloc (.cells #[.slice none 0 0] 25)).alloc (.cells #[.pointer p] 23)).alloc (.cells #[.int .i64 n] 3)) := (((Below.refl _ w).alloc (Nat.le_refl _) _).alloc (by simp) _).alloc (by simp; omega) _
    refine (since1_call 40 #[.pointer (some ⟨w.heap.size, 0, none⟩)] (enters_of Try.func40 (by kernel_rfl) rfl) (w.heap.size + 1) (w.heap.size + 1 + 1) (.pointer p) vs n l (by omega)
      (fun pre W => Out w.heap.size W w.heap.size pre ∧ Below w.heap.size w W) (fun _ _ => False) _ ?_ ?_ ?_ (HR.out.below hB0) bR.cell bN.cell ⟨⟨_, bO, World.ownsRow_nil _ _ _ _⟩, hB0⟩).mono ?_
    · rintro pre X o ⟨⟨u, h1, h2⟩, hb⟩
      exact ⟨⟨u, h1.alloc _, h2.alloc _⟩, hb.alloc hb.size _⟩
    · rintro pre X ⟨_, hb⟩
      exact (HR.out.below hb).sl
    · rintro pre ⟨x1, x2⟩ X ⟨ho, hb⟩ hlt _
      refine (gone1_any w.heap.size w.heap.size pre x1 x2 X (by omega) ho hb.size (Nat.le_refl _)).mono ?_
      rintro e X' ⟨rfl, h1, h2⟩
      exact .inl ⟨by rw [decide_eq_true (by omega)], h1, hb.trans h2⟩
    · rintro e W' ⟨rfl, h1 | ⟨_, _, h⟩⟩
      · exact ⟨rfl, h1⟩
      · exact h.elim
  have hnf : ∀ (c : Array Value) (w : World), (binOp BinOp.eql 58 (.func (.func 39) #[] c) Value.nilFunc).run Try.prog w = .ok (.bool false) w := fun _ _ => rfl
  clear HR
  go_enter Try.func34, Try.ntmps34
  go_wp2_with (first | (go_at_call 23; refine (since_any _ n _ ⟨_, rfl⟩).mono ?_; rintro e w' ⟨rfl, rfl⟩) | (go_at_call 39; refine HC.out.mono ?_; rintro e w' ⟨rfl, ⟨u, hbo, hrow⟩, hbel⟩))
  have cO := hbo.cell
  have HROW : Hid (w'.ownsRow w.heap.size 37 2 u (beh l n).length (evC (beh l n))) := hrow
  have HBEL : Hid (Below w.heap.size w w') := hbel
  have hu : ∃ a c, u = .slice a (beh l n).length c := by
    rcases hrow.2 with ⟨rfl, h0⟩ | ⟨g, cap, cur, rfl, _⟩
    · exact ⟨none, 0, by rw [h0]⟩
    · exact ⟨_, _, rfl⟩
  clear hbo hrow hbel HC
  obtain ⟨a, c, rfl⟩ := hu
  have hle : ((beh l n).length : Int) ≤ 2000 := by omega
  generalize hd : beh l n = d at *
  have HD : Hid _ := hd
  clear hd
  go_quiet (fail)
  go_wp2
  go_ret2
  refine ⟨.slice a d.length c, by simp [hbl], ?_, below_drewN' HBEL.out nq⟩
  rw [HD.out]
  exact HROW.out
end Go.Proofs.Ytigapdfefapdgaa
