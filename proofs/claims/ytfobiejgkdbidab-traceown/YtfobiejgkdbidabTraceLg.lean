import Derived.Test.YtfobiejgkdbidabTraceRecC
import Derived.Deep.RegionWith
namespace Go.Proofs.Ytfobiejgkdbidab
set_option linter.unusedSimpArgs false
open Go.ChangeShapes Go.WideShapes Go.ChangeAt Go.RowKit Go.Pin
/-- what a step of a script leaves -/
def LoggedO (B R : Nat) (vs : Value) (l : List (Int × Int)) (o : Option (Int × Int)) (w w' : World) : Prop :=
  ∃ vs', Rec B w' R vs' (l ++ o.toList) ∧ Grow (Blk R vs) w w' ∧ (vs'.ownBlock = vs.ownBlock ∨ ∃ g, vs'.ownBlock = some g ∧ w.heap.size ≤ g)
theorem Logged.opt {B R : Nat} {vs : Value} {l : List (Int × Int)} {x : Int × Int} {w w0 w' : World} (hb : Below w.heap.size w w0) (h : Logged B R vs l x w0 w') : LoggedO B R vs l (some x) w w' := by
  obtain ⟨vs', h1, h2, h3⟩ := h
  refine ⟨vs', h1, (Grow.of_below hb).trans h2, ?_⟩
  rcases h3 with h3 | ⟨g, hg, h3⟩
  · exact .inl h3
  · exact .inr ⟨g, hg, Nat.le_trans hb.size h3⟩
theorem loggedO_none {B R : Nat} {vs : Value} {l : List (Int × Int)} {w w' : World} (h : Rec B w R vs l) (hb : Below w.heap.size w w') : LoggedO B R vs l none w w' :=
  ⟨vs, by simpa using h.below hb, Grow.of_below hb, .inl rfl⟩
theorem Logged.old {B R : Nat} {vs : Value} {l : List (Int × Int)} {x : Int × Int} {w w' : World} (h : Logged B R vs l x w w') {p : Addr} (hp : p.block < w.heap.size) (hn : ¬ Blk R vs p.block) : w'.cell? p = w.cell? p := by
  obtain ⟨vs', h1, h2, h3⟩ := h
  exact World.cell?_of_block (h2.block _ hp hn)
set_option maxRecDepth 100000 in
set_option maxHeartbeats 1000000 in
theorem llog_any (B R : Nat) (vs : Value) (l : List (Int × Int)) (k v : Int) (b : Bool) (w : World) (h : Rec B w R vs l) (hl : l.length ≤ 1000000) :
    Calls Try.prog 13 #[.pointer (some ⟨R, 0, none⟩), .agg #[.int .i64 k, .int .i64 v, .bool b]] w fun e w' => e = .returned (.bool true) ∧ LoggedO B R vs l (evt k v b) w w' := by
  have hb0 : Below w.heap.size w (w.alloc (.cells #[.int .i64 k, .int .i64 v, .bool b] 45)) := (Below.refl _ w).alloc (Nat.le_refl _) _
  have HR : Hid (Rec B (w.alloc (.cells #[.int .i64 k, .int .i64 v, .bool b] 45)) R vs l) := h.below hb0
  have HR0 : Hid (Rec B w R vs l) := h
  have HB0 : Hid _ := hb0
  have HL : Hid _ := hl
  have HN : Hid (¬ Blk R vs w.heap.size) := fun hh => by have := h.lt _ hh; omega
  clear h hl hb0
  by_cases h1 : k = 1
  · subst h1
    have hev : evt 1 v b = some (1, if b then 1 else 0) := rfl
    rw [hev]
    clear hev
    generalize hx : ((1 : Int), (if b then (1 : Int) else 0)) = x
    have HX : Hid _ := hx
    clear hx
    go_enter Try.func13, Try.ntmps13
    go_wp2
    go_region_with (go_at_call 17; refine (rIf_any B R vs l b _ (by exact HR.out) HL.out).mono ?_; rintro e w' ⟨rfl, hw⟩; have c' := hw.old (p := ⟨w.heap.size, 2, none⟩) (by simp) HN.out; simp at c')
    all_goals
      go_wp2
      go_ret
      refine ⟨by cases b <;> rfl, ?_⟩
      rw [HX.out] at hw
      exact Logged.opt HB0.out.drew hw
  · by_cases h2 : k = 2
    · subst h2
      clear h1
      have hev : evt 2 v b = some (2, v) := rfl
      rw [hev]
      clear hev
      go_enter Try.func13, Try.ntmps13
      go_wp2
      go_region_with (go_at_call 18; refine (rAt_any B R vs l v _ (by exact HR.out) HL.out).mono ?_; rintro e w' ⟨rfl, hw⟩; have c' := hw.old (p := ⟨w.heap.size, 1, none⟩) (by simp) HN.out; simp at c')
      all_goals
        go_wp2
        go_ret
        refine ⟨by first | rfl | (show Ending.returned (.bool (v == v)) = _; rw [beq_self_eq_true]) | (show Ending.returned (.bool (decide (v = v))) = _; simp), ?_⟩
        exact Logged.opt HB0.out.drew hw
    · by_cases h3 : k = 3
      · subst h3
        clear h1 h2
        have hev : evt 3 v b = some (3, v) := rfl
        rw [hev]
        clear hev
        go_enter Try.func13, Try.ntmps13
        go_wp2_with (go_at_call 19; refine (rOp_any B R vs l v _ (by exact HR.out) HL.out).mono ?_; rintro e w' ⟨rfl, hw⟩)
        go_ret
        exact ⟨rfl, Logged.opt HB0.out hw⟩
      · have hev : evt k v b = none := by simp [evt, h1, h2, h3]
        rw [hev]
        clear hev
        have k1 : (k == 1) = false := by simp [h1]
        have k2 : (k == 2) = false := by simp [h2]
        have k3 : (k == 3) = false := by simp [h3]
        go_enter Try.func13, Try.ntmps13
        go_wp2
        go_ret
        exact ⟨rfl, loggedO_none HR0.out HB0.out⟩
set_option maxRecDepth 100000 in
set_option maxHeartbeats 1000000 in
theorem llog_nil (k v : Int) (b : Bool) (w : World) :
    Calls Try.prog 13 #[.pointer none, .agg #[.int .i64 k, .int .i64 v, .bool b]] w fun e w' => e = .returned (.bool true) ∧ Below w.heap.size w w' := by
  have hb0 : Below w.heap.size w (w.alloc (.cells #[.int .i64 k, .int .i64 v, .bool b] 45)) := (Below.refl _ w).alloc (Nat.le_refl _) _
  have HB0 : Hid _ := hb0
  clear hb0
  by_cases h1 : k = 1
  · subst h1
    go_enter Try.func13, Try.ntmps13
    go_wp2
    go_region_with (go_at_call 17; refine (rIf_nil b _).mono ?_; rintro e w' ⟨rfl, rfl⟩)
    all_goals
      go_wp2
      go_ret
      exact ⟨by cases b <;> rfl, HB0.out.drew⟩
  · by_cases h2 : k = 2
    · subst h2
      clear h1
      go_enter Try.func13, Try.ntmps13
      go_wp2
      go_region_with (go_at_call 18; refine (rAt_nil v _).mono ?_; rintro e w' ⟨rfl, rfl⟩)
      all_goals
        go_wp2
        go_ret
        exact ⟨by first | rfl | (show Ending.returned (.bool (v == v)) = _; rw [beq_self_eq_true]) | (show Ending.returned (.bool (decide (v = v))) = _; simp), HB0.out.drew⟩
    · by_cases h3 : k = 3
      · subst h3
        clear h1 h2
        go_enter Try.func13, Try.ntmps13
        go_wp2_with (go_at_call 19; refine (rOp_nil v _).mono ?_; rintro e w' ⟨rfl, rfl⟩)
        go_ret
        exact ⟨rfl, HB0.out⟩
      · have k1 : (k == 1) = false := by simp [h1]
        have k2 : (k == 2) = false := by simp [h2]
        have k3 : (k == 3) = false := by simp [h3]
        go_enter Try.func13, Try.ntmps13
        go_wp2
        go_ret
        exact ⟨rfl, HB0.out⟩
end Go.Proofs.Ytfobiejgkdbidab
