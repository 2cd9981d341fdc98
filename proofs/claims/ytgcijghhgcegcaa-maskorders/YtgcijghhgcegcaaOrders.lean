import Derived.Test.YtgcijghhgcegcaaKnown
import Derived.Test.YtgcijghhgcegcaaLift
import Derived.Deep.RegionHeld3
namespace Go.Proofs.Ytgcijghhgcegcaa
set_option linter.unusedSimpArgs false
open Go.ChangeShapes Go.WideShapes Go.ChangeAt Go.RowKit Go.Pin
def inV (x : Int) : Prop := 0 ≤ x ∧ x < 18446744073709551616
theorem less_yes (x y : Int) (w : World) (hx : inV x) (hy : inV y) (h : x < y) :
    Calls Try.prog 11 #[.int .u64 x, .int .u64 y] w fun e w' => e = .returned (.int .u64 1) ∧ w' = w := by
  refine (less_any x y w hx.1 hx.2 hy.1 hy.2).mono ?_
  rintro e w' ⟨rfl, rfl⟩
  exact ⟨by simp [ltB, h], rfl⟩
theorem less_no (x y : Int) (w : World) (hx : inV x) (hy : inV y) (h : y ≤ x) :
    Calls Try.prog 11 #[.int .u64 x, .int .u64 y] w fun e w' => e = .returned (.int .u64 0) ∧ w' = w := by
  refine (less_any x y w hx.1 hx.2 hy.1 hy.2).mono ?_
  rintro e w' ⟨rfl, rfl⟩
  have h' : ¬ x < y := by omega
  exact ⟨by simp [ltB, h'], rfl⟩
theorem equal_yes (x y : Int) (w : World) (hx : inV x) (hy : inV y) (h : x = y) :
    Calls Try.prog 9 #[.int .u64 x, .int .u64 y] w fun e w' => e = .returned (.int .u64 1) ∧ w' = w := by
  refine (equal_any x y w hx.1 hx.2 hy.1 hy.2).mono ?_
  rintro e w' ⟨rfl, rfl⟩
  exact ⟨by simp [eqB, h], rfl⟩
theorem equal_no (x y : Int) (w : World) (hx : inV x) (hy : inV y) (h : x < y ∨ y < x) :
    Calls Try.prog 9 #[.int .u64 x, .int .u64 y] w fun e w' => e = .returned (.int .u64 0) ∧ w' = w := by
  refine (equal_any x y w hx.1 hx.2 hy.1 hy.2).mono ?_
  rintro e w' ⟨rfl, rfl⟩
  have h' : ¬ x = y := by omega
  exact ⟨by simp [eqB, h'], rfl⟩
theorem pick_a (x y : Int) (w : World) (hx : inV x) (hy : inV y) :
    Calls Try.prog 12 #[.int .u64 1, .int .u64 x, .int .u64 y] w fun e w' => e = .returned (.int .u64 x) ∧ w' = w := by
  refine (pick_any 1 x y w (by decide) (by decide) hx.1 hx.2 hy.1 hy.2).mono ?_
  rintro e w' ⟨rfl, rfl⟩
  exact ⟨by simp [pickI], rfl⟩
theorem pick_b (x y : Int) (w : World) (hx : inV x) (hy : inV y) :
    Calls Try.prog 12 #[.int .u64 0, .int .u64 x, .int .u64 y] w fun e w' => e = .returned (.int .u64 y) ∧ w' = w := by
  refine (pick_any 0 x y w (by decide) (by decide) hx.1 hx.2 hy.1 hy.2).mono ?_
  rintro e w' ⟨rfl, rfl⟩
  exact ⟨by simp [pickI], rfl⟩
/-- what the law holds of the world: its two keys -/
structure OS (w : World) (k l : List Int) (W : World) : Prop where
  old : Below w.heap.size w W
  size : w.heap.size + 2 ≤ W.heap.size
  k : W.heap[w.heap.size]? = some (.cells (VI .u8 k) 32 (0, 0))
  l : W.heap[w.heap.size + 1]? = some (.cells (VI .u8 l) 32 (0, 0))
theorem OS.drew {w : World} {k l : List Int} {W : World} (h : OS w k l W) : OS w k l W.drew := ⟨h.old.drew, h.size, h.k, h.l⟩
theorem OS.below {w : World} {k l : List Int} {W W' : World} (h : OS w k l W) (hb : Below W.heap.size W W') : OS w k l W' := by
  have h1 := h.size
  have h2 := hb.size
  exact ⟨h.old.trans (hb.mono (by omega)), by omega, (hb.block _ (by omega)).trans h.k, (hb.block _ (by omega)).trans h.l⟩
theorem OS.loadK {w : World} {k l : List Int} {W : World} (h : OS w k l W) (hk : k.length = 32) : (Instr.loadAt 32 (.pointer (some ⟨w.heap.size, 0, none⟩))).run Try.prog W = .ok (.agg (VI .u8 k)) W := by
  simp only [Instr.loadAt, Instr.sureAddr, Sem.run_bind, Sem.run_pure, Result.andThen]
  exact run_loadVar_row _ _ 32 32 _ (0, 0) _ h.k Try.underlying32 rfl (by rw [VI_size, hk]; exact info32)
theorem OS.loadL {w : World} {k l : List Int} {W : World} (h : OS w k l W) (hl : l.length = 32) : (Instr.loadAt 32 (.pointer (some ⟨w.heap.size + 1, 0, none⟩))).run Try.prog W = .ok (.agg (VI .u8 l)) W := by
  simp only [Instr.loadAt, Instr.sureAddr, Sem.run_bind, Sem.run_pure, Result.andThen]
  exact run_loadVar_row _ _ 32 32 _ (0, 0) _ h.l Try.underlying32 rfl (by rw [VI_size, hl]; exact info32)
theorem pickKey_1 (a b : List Int) (h : a.length = 32 ∧ b.length = 32 ∧ (∀ x ∈ a, 0 ≤ x ∧ x < 256) ∧ ∀ x ∈ b, 0 ≤ x ∧ x < 256) (w : World) :
    Calls Try.prog 15 #[.int .u64 1, .agg (VI .u8 a), .agg (VI .u8 b)] w fun e w' => e = .returned (.agg (VI .u8 a)) ∧ Below w.heap.size w w' := by
  have := pickKey_any 1 a b (by decide) (by decide) h.1 h.2.1 h.2.2.1 h.2.2.2 w
  rw [show pickL 1 a b = a from rfl] at this
  exact this
theorem pickKey_0 (a b : List Int) (h : a.length = 32 ∧ b.length = 32 ∧ (∀ x ∈ a, 0 ≤ x ∧ x < 256) ∧ ∀ x ∈ b, 0 ≤ x ∧ x < 256) (w : World) :
    Calls Try.prog 15 #[.int .u64 0, .agg (VI .u8 a), .agg (VI .u8 b)] w fun e w' => e = .returned (.agg (VI .u8 b)) ∧ Below w.heap.size w w' := by
  have := pickKey_any 0 a b (by decide) (by decide) h.1 h.2.1 h.2.2.1 h.2.2.2 w
  rw [show pickL 0 a b = b from rfl] at this
  exact this
theorem keys_same (a : List Int) (h : a.length = 32) (wa : ∀ x ∈ a, 0 ≤ x ∧ x < 256) (w : World) :
    Calls Try.prog 14 #[.agg (VI .u8 a), .agg (VI .u8 a)] w fun e w' => e = .returned (.int .u64 1) ∧ Below w.heap.size w w' := by
  have := keys_any a a h h wa wa w
  rw [show eqL a a = 1 by simp [eqL]] at this
  exact this
theorem os_drew {w : World} {k l : List Int} {ks ls : List Value} {W : World} (h : OS w k l W ∧ W.rangeAt w.heap.size 0 ks ∧ W.rangeAt (w.heap.size + 1) 0 ls) : OS w k l W.drew ∧ W.drew.rangeAt w.heap.size 0 ks ∧ W.drew.rangeAt (w.heap.size + 1) 0 ls :=
  ⟨h.1.drew, (World.rangeAt_drew _ _ _ _).2 h.2.1, (World.rangeAt_drew _ _ _ _).2 h.2.2⟩
theorem os_below {w : World} {k l : List Int} {ks ls : List Value} {W W' : World} (h : OS w k l W ∧ W.rangeAt w.heap.size 0 ks ∧ W.rangeAt (w.heap.size + 1) 0 ls) (hb : Below W.heap.size W W') : OS w k l W' ∧ W'.rangeAt w.heap.size 0 ks ∧ W'.rangeAt (w.heap.size + 1) 0 ls := by
  have h1 := h.1.size
  exact ⟨h.1.below hb, fun j v hv => (hb.cell (p := ⟨w.heap.size, 0 + j, none⟩) (by show w.heap.size < _; omega)).trans (h.2.1 j v hv), fun j v hv => (hb.cell (p := ⟨w.heap.size + 1, 0 + j, none⟩) (by show w.heap.size + 1 < _; omega)).trans (h.2.2 j v hv)⟩
theorem range_row {W : World} {b : Nat} {cs : Array Value} {t : TypeId} {fr : Nat × Nat} (h : W.heap[b]? = some (.cells cs t fr)) (ks : List Value) (hk : ks.toArray = cs) : W.rangeAt b 0 ks := fun j v hv => by
  rw [cell_of_row W b (0 + j) cs t fr h, ← hk, Nat.zero_add]
  simpa using hv
set_option maxRecDepth 100000 in
set_option maxHeartbeats 1000000 in
theorem orders_walk (a b c : Int) (k l : List Int) (ha : inV a) (hb : inV b) (hc : inV c) (hk : k.length = 32) (hl : l.length = 32)
    (wk : ∀ x ∈ k, 0 ≤ x ∧ x < 256) (wl : ∀ x ∈ l, 0 ≤ x ∧ x < 256) (w : World) :
    Calls Try.prog 7 #[.int .u64 a, .int .u64 b, .int .u64 c, .agg (VI .u8 k), .agg (VI .u8 l)] w fun e w' => e = .returned (.bool true) ∧ Below w.heap.size w w' := by
  have HK : Hid _ := And.intro hk (And.intro hl (And.intro wk wl))
  obtain ⟨ks, hks⟩ : ∃ ks : List Value, ks.toArray = VI .u8 k := ⟨k.map (Value.int .u8), rfl⟩
  obtain ⟨ls, hls⟩ : ∃ ls : List Value, ls.toArray = VI .u8 l := ⟨l.map (Value.int .u8), rfl⟩
  have hkl : ks.length = 32 := by rw [← List.size_toArray, hks, VI_size, hk]
  have hll : ls.length = 32 := by rw [← List.size_toArray, hls, VI_size, hl]
  have ik : (Try.prog.info? 32).map (·.size) = some ks.length := by rw [hkl]; exact info32
  have il : (Try.prog.info? 32).map (·.size) = some ls.length := by rw [hll]; exact info32
  have u32 := Try.underlying32
  have C1 : Hid (∀ w, Calls Try.prog 15 #[.int .u64 1, .agg ks.toArray, .agg ls.toArray] w fun e w' => e = .returned (.agg ks.toArray) ∧ Below w.heap.size w w') := by
    rw [hks, hls]; exact pickKey_1 k l HK.out
  have C0 : Hid (∀ w, Calls Try.prog 15 #[.int .u64 0, .agg ks.toArray, .agg ls.toArray] w fun e w' => e = .returned (.agg ls.toArray) ∧ Below w.heap.size w w') := by
    rw [hks, hls]; exact pickKey_0 k l HK.out
  have CK : Hid (∀ w, Calls Try.prog 14 #[.agg ks.toArray, .agg ks.toArray] w fun e w' => e = .returned (.int .u64 1) ∧ Below w.heap.size w w') := by
    rw [hks]; exact keys_same k hk wk
  have CL : Hid (∀ w, Calls Try.prog 14 #[.agg ls.toArray, .agg ls.toArray] w fun e w' => e = .returned (.int .u64 1) ∧ Below w.heap.size w w') := by
    rw [hls]; exact keys_same l hl wl
  have HKS : Hid _ := hks
  have HLS : Hid _ := hls
  clear hk hl wk wl hks hls
  by_cases h1 : a < b
  · by_cases h2 : b < c
    · have _h3 : a < c := by omega
      go_enter Try.func7, Try.ntmps7
      go_wp2_with fail
      generalize hW : World.alloc _ _ = W
      have hO1 : OS w k l W := by
        rw [← hW]
        exact ⟨((Below.refl _ _).alloc (Nat.le_refl _) _).alloc (by simp) _, by simp, heap_alloc2_old _ _ _, heap_alloc2_new _ _ _⟩
      have HO : Hid (OS w k l W ∧ W.rangeAt w.heap.size 0 ks ∧ W.rangeAt (w.heap.size + 1) 0 ls) := ⟨hO1, range_row hO1.k ks HKS.out, range_row hO1.l ls HLS.out⟩
      clear hW hO1
      go_wp2_with (first | (go_at_call 11; refine (less_yes _ _ _ (by assumption) (by assumption) ?_).mono ?_; omega; rintro e w' ⟨rfl, rfl⟩) | (go_at_call 11; refine (less_no _ _ _ (by assumption) (by assumption) ?_).mono ?_; omega; rintro e w' ⟨rfl, rfl⟩) | (go_at_call 9; refine (equal_no _ _ _ (by assumption) (by assumption) ?_).mono ?_; omega; rintro e w' ⟨rfl, rfl⟩) | (go_at_call 12; refine (pick_a _ _ _ (by assumption) (by assumption)).mono ?_; rintro e w' ⟨rfl, rfl⟩))
      have hO := HO.out
      clear ha hb hc HO
      refine wp_region_held_drew (S := fun W => OS w k l W ∧ W.rangeAt w.heap.size 0 ks ∧ W.rangeAt (w.heap.size + 1) 0 ls) (by kernel_rfl) (os_drew hO) (fun hH => ?_)
      refine wpAnyH_take (i := 0) rfl (by kernel_rfl) (by kernel_rfl) (by kernel_rfl) (fun _ _ _ h => h) (yieldsIf_load_mid (by rfl) 32 _ rfl _ _ rfl ks _ (fun _ h => h.2.1) u32 rfl ik) hH ?_
      try simp only [Act.put, List.setIfInBounds_toArray, List.set_cons_zero, List.set_cons_succ]
      refine wpAnyH_take (i := 1) rfl (by kernel_rfl) (by kernel_rfl) (by kernel_rfl) (fun _ _ _ h => h) (yieldsIf_load_mid (by rfl) 32 _ rfl _ _ rfl ks _ (fun _ h => h.2.1) u32 rfl ik) hH ?_
      try simp only [Act.put, List.setIfInBounds_toArray, List.set_cons_zero, List.set_cons_succ]
      refine wpAnyH_take (i := 2) rfl (by kernel_rfl) (by kernel_rfl) (by kernel_rfl) (fun _ _ _ h => h) (yieldsIf_load_mid (by rfl) 32 _ rfl _ _ rfl ls _ (fun _ h => h.2.2) u32 rfl il) hH ?_
      try simp only [Act.put, List.setIfInBounds_toArray, List.set_cons_zero, List.set_cons_succ]
      refine wpAnyH_ready (rs := [3]) (by kernel_rfl) (by simp) (AllReadyH.cons rfl (fun K' hK => ?_) AllReadyH.nil)
      go_simp
      refine (C1.out _).mono ?_
      rintro e w' ⟨rfl, hb⟩
      go_wp2_with fail
      refine hK.out _ _ (os_below hH hb) (fun hH => ?_)
      clear hK K'
      try simp only [Act.put, List.setIfInBounds_toArray, List.set_cons_zero, List.set_cons_succ]
      refine wpAnyH_ready (rs := [4]) (by kernel_rfl) (by simp) (AllReadyH.cons rfl (fun K' hK => ?_) AllReadyH.nil)
      go_simp
      refine (CK.out _).mono ?_
      rintro e w' ⟨rfl, hb⟩
      go_wp2_with fail
      refine hK.out _ _ (os_below hH hb) (fun hH => ?_)
      clear hK K'
      try simp only [Act.put, List.setIfInBounds_toArray, List.set_cons_zero, List.set_cons_succ]
      refine wpAnyH_take (i := 5) (v := .bool true) rfl (by kernel_rfl) (by kernel_rfl) (by kernel_rfl) (fun _ _ _ h => h) (Or.inl ⟨by rfl, fun W hW => ?_⟩) hH ?_
      · go_simp
      try simp only [Act.put, List.setIfInBounds_toArray, List.set_cons_zero, List.set_cons_succ]
      refine wpAnyH_take (i := 6) (v := .bool true) rfl (by kernel_rfl) (by kernel_rfl) (by kernel_rfl) (fun _ _ _ h => h) (Or.inl ⟨by rfl, fun W hW => ?_⟩) hH ?_
      · go_simp
      try simp only [Act.put, List.setIfInBounds_toArray, List.set_cons_zero, List.set_cons_succ]
      refine wpAnyH_take (i := 7) rfl (by kernel_rfl) (by kernel_rfl) (by kernel_rfl) (fun _ _ _ h => h) (yieldsIf_load_mid (by rfl) 32 _ rfl _ _ rfl ls _ (fun _ h => h.2.2) u32 rfl il) hH ?_
      try simp only [Act.put, List.setIfInBounds_toArray, List.set_cons_zero, List.set_cons_succ]
      refine wpAnyH_take (i := 8) rfl (by kernel_rfl) (by kernel_rfl) (by kernel_rfl) (fun _ _ _ h => h) (yieldsIf_load_mid (by rfl) 32 _ rfl _ _ rfl ks _ (fun _ h => h.2.1) u32 rfl ik) hH ?_
      try simp only [Act.put, List.setIfInBounds_toArray, List.set_cons_zero, List.set_cons_succ]
      refine wpAnyH_take (i := 9) rfl (by kernel_rfl) (by kernel_rfl) (by kernel_rfl) (fun _ _ _ h => h) (yieldsIf_load_mid (by rfl) 32 _ rfl _ _ rfl ls _ (fun _ h => h.2.2) u32 rfl il) hH ?_
      try simp only [Act.put, List.setIfInBounds_toArray, List.set_cons_zero, List.set_cons_succ]
      refine wpAnyH_ready (rs := [10]) (by kernel_rfl) (by simp) (AllReadyH.cons rfl (fun K' hK => ?_) AllReadyH.nil)
      go_simp
      refine (C0.out _).mono ?_
      rintro e w' ⟨rfl, hb⟩
      go_wp2_with fail
      refine hK.out _ _ (os_below hH hb) (fun hH => ?_)
      clear hK K'
      try simp only [Act.put, List.setIfInBounds_toArray, List.set_cons_zero, List.set_cons_succ]
      refine wpAnyH_ready (rs := [11]) (by kernel_rfl) (by simp) (AllReadyH.cons rfl (fun K' hK => ?_) AllReadyH.nil)
      go_simp
      refine (CL.out _).mono ?_
      rintro e w' ⟨rfl, hb⟩
      go_wp2_with fail
      refine hK.out _ _ (os_below hH hb) (fun hH => ?_)
      clear hK K'
      try simp only [Act.put, List.setIfInBounds_toArray, List.set_cons_zero, List.set_cons_succ]
      refine wpAnyH_take (i := 12) (v := .bool true) rfl (by kernel_rfl) (by kernel_rfl) (by kernel_rfl) (fun _ _ _ h => h) (Or.inl ⟨by rfl, fun W hW => ?_⟩) hH ?_
      · go_simp
      try simp only [Act.put, List.setIfInBounds_toArray, List.set_cons_zero, List.set_cons_succ]
      refine wpAnyH_take (i := 13) (v := .bool true) rfl (by kernel_rfl) (by kernel_rfl) (by kernel_rfl) (fun _ _ _ h => h) (Or.inl ⟨by rfl, fun W hW => ?_⟩) hH ?_
      · go_simp
      try simp only [Act.put, List.setIfInBounds_toArray, List.set_cons_zero, List.set_cons_succ]
      refine wpAnyH_take (i := 14) (v := .bool true) rfl (by kernel_rfl) (by kernel_rfl) (by kernel_rfl) (fun _ _ _ h => h) (Or.inl ⟨by rfl, fun W hW => ?_⟩) hH ?_
      · go_simp
      try simp only [Act.put, List.setIfInBounds_toArray, List.set_cons_zero, List.set_cons_succ]
      refine wpAnyH_ready (rs := [15]) (by kernel_rfl) (by simp) (AllReadyH.cons rfl (fun K' hK => ?_) AllReadyH.nil)
      go_simp
      refine (known_any _).mono ?_
      rintro e w' ⟨rfl, hb⟩
      go_wp2_with fail
      refine hK.out _ _ (os_below hH hb) (fun hH => ?_)
      clear hK K'
      try simp only [Act.put, List.setIfInBounds_toArray, List.set_cons_zero, List.set_cons_succ]
      refine wpAnyH_ready (rs := [16]) (by kernel_rfl) (by simp) (AllReadyH.cons rfl (fun K' hK => ?_) AllReadyH.nil)
      go_simp
      refine hK.out _ _ hH (fun hH => ?_)
      clear hK K'
      try simp only [Act.put, List.setIfInBounds_toArray, List.set_cons_zero, List.set_cons_succ]
      refine wpAnyH_ready (rs := [17]) (by kernel_rfl) (by simp) (AllReadyH.cons rfl (fun K' hK => ?_) AllReadyH.nil)
      go_simp
      refine hK.out _ _ hH (fun hH => ?_)
      clear hK K'
      try simp only [Act.put, List.setIfInBounds_toArray, List.set_cons_zero, List.set_cons_succ]
      refine wpAnyH_done (by kernel_rfl) ?_ _
      go_wp2
      go_ret
      exact ⟨rfl, hH.1.old⟩
    · go_enter Try.func7, Try.ntmps7
      go_wp2_with fail
      generalize hW : World.alloc _ _ = W
      have hO1 : OS w k l W := by
        rw [← hW]
        exact ⟨((Below.refl _ _).alloc (Nat.le_refl _) _).alloc (by simp) _, by simp, heap_alloc2_old _ _ _, heap_alloc2_new _ _ _⟩
      have HO : Hid (OS w k l W ∧ W.rangeAt w.heap.size 0 ks ∧ W.rangeAt (w.heap.size + 1) 0 ls) := ⟨hO1, range_row hO1.k ks HKS.out, range_row hO1.l ls HLS.out⟩
      clear hW hO1
      go_wp2_with (first | (go_at_call 11; refine (less_yes _ _ _ (by assumption) (by assumption) ?_).mono ?_; omega; rintro e w' ⟨rfl, rfl⟩) | (go_at_call 11; refine (less_no _ _ _ (by assumption) (by assumption) ?_).mono ?_; omega; rintro e w' ⟨rfl, rfl⟩) | (go_at_call 9; refine (equal_no _ _ _ (by assumption) (by assumption) ?_).mono ?_; omega; rintro e w' ⟨rfl, rfl⟩) | (go_at_call 12; refine (pick_a _ _ _ (by assumption) (by assumption)).mono ?_; rintro e w' ⟨rfl, rfl⟩))
      have hO := HO.out
      clear ha hb hc HO
      refine wp_region_held_drew (S := fun W => OS w k l W ∧ W.rangeAt w.heap.size 0 ks ∧ W.rangeAt (w.heap.size + 1) 0 ls) (by kernel_rfl) (os_drew hO) (fun hH => ?_)
      refine wpAnyH_take (i := 0) rfl (by kernel_rfl) (by kernel_rfl) (by kernel_rfl) (fun _ _ _ h => h) (yieldsIf_load_mid (by rfl) 32 _ rfl _ _ rfl ks _ (fun _ h => h.2.1) u32 rfl ik) hH ?_
      try simp only [Act.put, List.setIfInBounds_toArray, List.set_cons_zero, List.set_cons_succ]
      refine wpAnyH_take (i := 1) rfl (by kernel_rfl) (by kernel_rfl) (by kernel_rfl) (fun _ _ _ h => h) (yieldsIf_load_mid (by rfl) 32 _ rfl _ _ rfl ks _ (fun _ h => h.2.1) u32 rfl ik) hH ?_
      try simp only [Act.put, List.setIfInBounds_toArray, List.set_cons_zero, List.set_cons_succ]
      refine wpAnyH_take (i := 2) rfl (by kernel_rfl) (by kernel_rfl) (by kernel_rfl) (fun _ _ _ h => h) (yieldsIf_load_mid (by rfl) 32 _ rfl _ _ rfl ls _ (fun _ h => h.2.2) u32 rfl il) hH ?_
      try simp only [Act.put, List.setIfInBounds_toArray, List.set_cons_zero, List.set_cons_succ]
      refine wpAnyH_ready (rs := [3]) (by kernel_rfl) (by simp) (AllReadyH.cons rfl (fun K' hK => ?_) AllReadyH.nil)
      go_simp
      refine (C1.out _).mono ?_
      rintro e w' ⟨rfl, hb⟩
      go_wp2_with fail
      refine hK.out _ _ (os_below hH hb) (fun hH => ?_)
      clear hK K'
      try simp only [Act.put, List.setIfInBounds_toArray, List.set_cons_zero, List.set_cons_succ]
      refine wpAnyH_ready (rs := [4]) (by kernel_rfl) (by simp) (AllReadyH.cons rfl (fun K' hK => ?_) AllReadyH.nil)
      go_simp
      refine (CK.out _).mono ?_
      rintro e w' ⟨rfl, hb⟩
      go_wp2_with fail
      refine hK.out _ _ (os_below hH hb) (fun hH => ?_)
      clear hK K'
      try simp only [Act.put, List.setIfInBounds_toArray, List.set_cons_zero, List.set_cons_succ]
      refine wpAnyH_take (i := 5) (v := .bool true) rfl (by kernel_rfl) (by kernel_rfl) (by kernel_rfl) (fun _ _ _ h => h) (Or.inl ⟨by rfl, fun W hW => ?_⟩) hH ?_
      · go_simp
      try simp only [Act.put, List.setIfInBounds_toArray, List.set_cons_zero, List.set_cons_succ]
      refine wpAnyH_take (i := 6) (v := .bool true) rfl (by kernel_rfl) (by kernel_rfl) (by kernel_rfl) (fun _ _ _ h => h) (Or.inl ⟨by rfl, fun W hW => ?_⟩) hH ?_
      · go_simp
      try simp only [Act.put, List.setIfInBounds_toArray, List.set_cons_zero, List.set_cons_succ]
      refine wpAnyH_take (i := 7) rfl (by kernel_rfl) (by kernel_rfl) (by kernel_rfl) (fun _ _ _ h => h) (yieldsIf_load_mid (by rfl) 32 _ rfl _ _ rfl ls _ (fun _ h => h.2.2) u32 rfl il) hH ?_
      try simp only [Act.put, List.setIfInBounds_toArray, List.set_cons_zero, List.set_cons_succ]
      refine wpAnyH_take (i := 8) rfl (by kernel_rfl) (by kernel_rfl) (by kernel_rfl) (fun _ _ _ h => h) (yieldsIf_load_mid (by rfl) 32 _ rfl _ _ rfl ks _ (fun _ h => h.2.1) u32 rfl ik) hH ?_
      try simp only [Act.put, List.setIfInBounds_toArray, List.set_cons_zero, List.set_cons_succ]
      refine wpAnyH_take (i := 9) rfl (by kernel_rfl) (by kernel_rfl) (by kernel_rfl) (fun _ _ _ h => h) (yieldsIf_load_mid (by rfl) 32 _ rfl _ _ rfl ls _ (fun _ h => h.2.2) u32 rfl il) hH ?_
      try simp only [Act.put, List.setIfInBounds_toArray, List.set_cons_zero, List.set_cons_succ]
      refine wpAnyH_ready (rs := [10]) (by kernel_rfl) (by simp) (AllReadyH.cons rfl (fun K' hK => ?_) AllReadyH.nil)
      go_simp
      refine (C0.out _).mono ?_
      rintro e w' ⟨rfl, hb⟩
      go_wp2_with fail
      refine hK.out _ _ (os_below hH hb) (fun hH => ?_)
      clear hK K'
      try simp only [Act.put, List.setIfInBounds_toArray, List.set_cons_zero, List.set_cons_succ]
      refine wpAnyH_ready (rs := [11]) (by kernel_rfl) (by simp) (AllReadyH.cons rfl (fun K' hK => ?_) AllReadyH.nil)
      go_simp
      refine (CL.out _).mono ?_
      rintro e w' ⟨rfl, hb⟩
      go_wp2_with fail
      refine hK.out _ _ (os_below hH hb) (fun hH => ?_)
      clear hK K'
      try simp only [Act.put, List.setIfInBounds_toArray, List.set_cons_zero, List.set_cons_succ]
      refine wpAnyH_take (i := 12) (v := .bool true) rfl (by kernel_rfl) (by kernel_rfl) (by kernel_rfl) (fun _ _ _ h => h) (Or.inl ⟨by rfl, fun W hW => ?_⟩) hH ?_
      · go_simp
      try simp only [Act.put, List.setIfInBounds_toArray, List.set_cons_zero, List.set_cons_succ]
      refine wpAnyH_take (i := 13) (v := .bool true) rfl (by kernel_rfl) (by kernel_rfl) (by kernel_rfl) (fun _ _ _ h => h) (Or.inl ⟨by rfl, fun W hW => ?_⟩) hH ?_
      · go_simp
      try simp only [Act.put, List.setIfInBounds_toArray, List.set_cons_zero, List.set_cons_succ]
      refine wpAnyH_take (i := 14) (v := .bool true) rfl (by kernel_rfl) (by kernel_rfl) (by kernel_rfl) (fun _ _ _ h => h) (Or.inl ⟨by rfl, fun W hW => ?_⟩) hH ?_
      · go_simp
      try simp only [Act.put, List.setIfInBounds_toArray, List.set_cons_zero, List.set_cons_succ]
      refine wpAnyH_ready (rs := [15]) (by kernel_rfl) (by simp) (AllReadyH.cons rfl (fun K' hK => ?_) AllReadyH.nil)
      go_simp
      refine (known_any _).mono ?_
      rintro e w' ⟨rfl, hb⟩
      go_wp2_with fail
      refine hK.out _ _ (os_below hH hb) (fun hH => ?_)
      clear hK K'
      try simp only [Act.put, List.setIfInBounds_toArray, List.set_cons_zero, List.set_cons_succ]
      refine wpAnyH_ready (rs := [16]) (by kernel_rfl) (by simp) (AllReadyH.cons rfl (fun K' hK => ?_) AllReadyH.nil)
      go_simp
      refine hK.out _ _ hH (fun hH => ?_)
      clear hK K'
      try simp only [Act.put, List.setIfInBounds_toArray, List.set_cons_zero, List.set_cons_succ]
      refine wpAnyH_ready (rs := [17]) (by kernel_rfl) (by simp) (AllReadyH.cons rfl (fun K' hK => ?_) AllReadyH.nil)
      go_simp
      refine hK.out _ _ hH (fun hH => ?_)
      clear hK K'
      try simp only [Act.put, List.setIfInBounds_toArray, List.set_cons_zero, List.set_cons_succ]
      refine wpAnyH_done (by kernel_rfl) ?_ _
      go_wp2
      go_ret
      exact ⟨rfl, hH.1.old⟩
  · by_cases h2 : a = b
    · subst h2
      go_enter Try.func7, Try.ntmps7
      go_wp2_with fail
      generalize hW : World.alloc _ _ = W
      have hO1 : OS w k l W := by
        rw [← hW]
        exact ⟨((Below.refl _ _).alloc (Nat.le_refl _) _).alloc (by simp) _, by simp, heap_alloc2_old _ _ _, heap_alloc2_new _ _ _⟩
      have HO : Hid (OS w k l W ∧ W.rangeAt w.heap.size 0 ks ∧ W.rangeAt (w.heap.size + 1) 0 ls) := ⟨hO1, range_row hO1.k ks HKS.out, range_row hO1.l ls HLS.out⟩
      clear hW hO1
      go_wp2_with (first | (go_at_call 11; refine (less_yes _ _ _ (by assumption) (by assumption) ?_).mono ?_; omega; rintro e w' ⟨rfl, rfl⟩) | (go_at_call 11; refine (less_no _ _ _ (by assumption) (by assumption) ?_).mono ?_; omega; rintro e w' ⟨rfl, rfl⟩) | (go_at_call 9; refine (equal_yes _ _ _ (by assumption) (by assumption) ?_).mono ?_; omega; rintro e w' ⟨rfl, rfl⟩) | (go_at_call 12; refine (pick_b _ _ _ (by assumption) (by assumption)).mono ?_; rintro e w' ⟨rfl, rfl⟩))
      have hO := HO.out
      clear ha hb hc HO
      refine wp_region_held_drew (S := fun W => OS w k l W ∧ W.rangeAt w.heap.size 0 ks ∧ W.rangeAt (w.heap.size + 1) 0 ls) (by kernel_rfl) (os_drew hO) (fun hH => ?_)
      refine wpAnyH_take (i := 0) rfl (by kernel_rfl) (by kernel_rfl) (by kernel_rfl) (fun _ _ _ h => h) (yieldsIf_load_mid (by rfl) 32 _ rfl _ _ rfl ks _ (fun _ h => h.2.1) u32 rfl ik) hH ?_
      try simp only [Act.put, List.setIfInBounds_toArray, List.set_cons_zero, List.set_cons_succ]
      refine wpAnyH_take (i := 1) rfl (by kernel_rfl) (by kernel_rfl) (by kernel_rfl) (fun _ _ _ h => h) (yieldsIf_load_mid (by rfl) 32 _ rfl _ _ rfl ks _ (fun _ h => h.2.1) u32 rfl ik) hH ?_
      try simp only [Act.put, List.setIfInBounds_toArray, List.set_cons_zero, List.set_cons_succ]
      refine wpAnyH_take (i := 2) rfl (by kernel_rfl) (by kernel_rfl) (by kernel_rfl) (fun _ _ _ h => h) (yieldsIf_load_mid (by rfl) 32 _ rfl _ _ rfl ls _ (fun _ h => h.2.2) u32 rfl il) hH ?_
      try simp only [Act.put, List.setIfInBounds_toArray, List.set_cons_zero, List.set_cons_succ]
      refine wpAnyH_ready (rs := [3]) (by kernel_rfl) (by simp) (AllReadyH.cons rfl (fun K' hK => ?_) AllReadyH.nil)
      go_simp
      refine (C1.out _).mono ?_
      rintro e w' ⟨rfl, hb⟩
      go_wp2_with fail
      refine hK.out _ _ (os_below hH hb) (fun hH => ?_)
      clear hK K'
      try simp only [Act.put, List.setIfInBounds_toArray, List.set_cons_zero, List.set_cons_succ]
      refine wpAnyH_ready (rs := [4]) (by kernel_rfl) (by simp) (AllReadyH.cons rfl (fun K' hK => ?_) AllReadyH.nil)
      go_simp
      refine (CK.out _).mono ?_
      rintro e w' ⟨rfl, hb⟩
      go_wp2_with fail
      refine hK.out _ _ (os_below hH hb) (fun hH => ?_)
      clear hK K'
      try simp only [Act.put, List.setIfInBounds_toArray, List.set_cons_zero, List.set_cons_succ]
      refine wpAnyH_take (i := 5) (v := .bool true) rfl (by kernel_rfl) (by kernel_rfl) (by kernel_rfl) (fun _ _ _ h => h) (Or.inl ⟨by rfl, fun W hW => ?_⟩) hH ?_
      · go_simp
      try simp only [Act.put, List.setIfInBounds_toArray, List.set_cons_zero, List.set_cons_succ]
      refine wpAnyH_take (i := 6) (v := .bool true) rfl (by kernel_rfl) (by kernel_rfl) (by kernel_rfl) (fun _ _ _ h => h) (Or.inl ⟨by rfl, fun W hW => ?_⟩) hH ?_
      · go_simp
      try simp only [Act.put, List.setIfInBounds_toArray, List.set_cons_zero, List.set_cons_succ]
      refine wpAnyH_take (i := 7) rfl (by kernel_rfl) (by kernel_rfl) (by kernel_rfl) (fun _ _ _ h => h) (yieldsIf_load_mid (by rfl) 32 _ rfl _ _ rfl ls _ (fun _ h => h.2.2) u32 rfl il) hH ?_
      try simp only [Act.put, List.setIfInBounds_toArray, List.set_cons_zero, List.set_cons_succ]
      refine wpAnyH_take (i := 8) rfl (by kernel_rfl) (by kernel_rfl) (by kernel_rfl) (fun _ _ _ h => h) (yieldsIf_load_mid (by rfl) 32 _ rfl _ _ rfl ks _ (fun _ h => h.2.1) u32 rfl ik) hH ?_
      try simp only [Act.put, List.setIfInBounds_toArray, List.set_cons_zero, List.set_cons_succ]
      refine wpAnyH_take (i := 9) rfl (by kernel_rfl) (by kernel_rfl) (by kernel_rfl) (fun _ _ _ h => h) (yieldsIf_load_mid (by rfl) 32 _ rfl _ _ rfl ls _ (fun _ h => h.2.2) u32 rfl il) hH ?_
      try simp only [Act.put, List.setIfInBounds_toArray, List.set_cons_zero, List.set_cons_succ]
      refine wpAnyH_ready (rs := [10]) (by kernel_rfl) (by simp) (AllReadyH.cons rfl (fun K' hK => ?_) AllReadyH.nil)
      go_simp
      refine (C0.out _).mono ?_
      rintro e w' ⟨rfl, hb⟩
      go_wp2_with fail
      refine hK.out _ _ (os_below hH hb) (fun hH => ?_)
      clear hK K'
      try simp only [Act.put, List.setIfInBounds_toArray, List.set_cons_zero, List.set_cons_succ]
      refine wpAnyH_ready (rs := [11]) (by kernel_rfl) (by simp) (AllReadyH.cons rfl (fun K' hK => ?_) AllReadyH.nil)
      go_simp
      refine (CL.out _).mono ?_
      rintro e w' ⟨rfl, hb⟩
      go_wp2_with fail
      refine hK.out _ _ (os_below hH hb) (fun hH => ?_)
      clear hK K'
      try simp only [Act.put, List.setIfInBounds_toArray, List.set_cons_zero, List.set_cons_succ]
      refine wpAnyH_take (i := 12) (v := .bool true) rfl (by kernel_rfl) (by kernel_rfl) (by kernel_rfl) (fun _ _ _ h => h) (Or.inl ⟨by rfl, fun W hW => ?_⟩) hH ?_
      · go_simp
      try simp only [Act.put, List.setIfInBounds_toArray, List.set_cons_zero, List.set_cons_succ]
      refine wpAnyH_take (i := 13) (v := .bool true) rfl (by kernel_rfl) (by kernel_rfl) (by kernel_rfl) (fun _ _ _ h => h) (Or.inl ⟨by rfl, fun W hW => ?_⟩) hH ?_
      · go_simp
      try simp only [Act.put, List.setIfInBounds_toArray, List.set_cons_zero, List.set_cons_succ]
      refine wpAnyH_take (i := 14) (v := .bool true) rfl (by kernel_rfl) (by kernel_rfl) (by kernel_rfl) (fun _ _ _ h => h) (Or.inl ⟨by rfl, fun W hW => ?_⟩) hH ?_
      · go_simp
      try simp only [Act.put, List.setIfInBounds_toArray, List.set_cons_zero, List.set_cons_succ]
      refine wpAnyH_ready (rs := [15]) (by kernel_rfl) (by simp) (AllReadyH.cons rfl (fun K' hK => ?_) AllReadyH.nil)
      go_simp
      refine (known_any _).mono ?_
      rintro e w' ⟨rfl, hb⟩
      go_wp2_with fail
      refine hK.out _ _ (os_below hH hb) (fun hH => ?_)
      clear hK K'
      try simp only [Act.put, List.setIfInBounds_toArray, List.set_cons_zero, List.set_cons_succ]
      refine wpAnyH_ready (rs := [16]) (by kernel_rfl) (by simp) (AllReadyH.cons rfl (fun K' hK => ?_) AllReadyH.nil)
      go_simp
      refine hK.out _ _ hH (fun hH => ?_)
      clear hK K'
      try simp only [Act.put, List.setIfInBounds_toArray, List.set_cons_zero, List.set_cons_succ]
      refine wpAnyH_ready (rs := [17]) (by kernel_rfl) (by simp) (AllReadyH.cons rfl (fun K' hK => ?_) AllReadyH.nil)
      go_simp
      refine hK.out _ _ hH (fun hH => ?_)
      clear hK K'
      try simp only [Act.put, List.setIfInBounds_toArray, List.set_cons_zero, List.set_cons_succ]
      refine wpAnyH_done (by kernel_rfl) ?_ _
      go_wp2
      go_ret
      exact ⟨rfl, hH.1.old⟩
    · have h3 : b < a := by omega
      have h4 : (b != a) = true := by simp; omega
      go_enter Try.func7, Try.ntmps7
      go_wp2_with fail
      generalize hW : World.alloc _ _ = W
      have hO1 : OS w k l W := by
        rw [← hW]
        exact ⟨((Below.refl _ _).alloc (Nat.le_refl _) _).alloc (by simp) _, by simp, heap_alloc2_old _ _ _, heap_alloc2_new _ _ _⟩
      have HO : Hid (OS w k l W ∧ W.rangeAt w.heap.size 0 ks ∧ W.rangeAt (w.heap.size + 1) 0 ls) := ⟨hO1, range_row hO1.k ks HKS.out, range_row hO1.l ls HLS.out⟩
      clear hW hO1
      go_wp2_with (first | (go_at_call 11; refine (less_yes _ _ _ (by assumption) (by assumption) ?_).mono ?_; omega; rintro e w' ⟨rfl, rfl⟩) | (go_at_call 11; refine (less_no _ _ _ (by assumption) (by assumption) ?_).mono ?_; omega; rintro e w' ⟨rfl, rfl⟩) | (go_at_call 9; refine (equal_no _ _ _ (by assumption) (by assumption) ?_).mono ?_; omega; rintro e w' ⟨rfl, rfl⟩) | (go_at_call 12; refine (pick_b _ _ _ (by assumption) (by assumption)).mono ?_; rintro e w' ⟨rfl, rfl⟩))
      have hO := HO.out
      clear ha hb hc HO
      refine wp_region_held_drew (S := fun W => OS w k l W ∧ W.rangeAt w.heap.size 0 ks ∧ W.rangeAt (w.heap.size + 1) 0 ls) (by kernel_rfl) (os_drew hO) (fun hH => ?_)
      refine wpAnyH_take (i := 0) rfl (by kernel_rfl) (by kernel_rfl) (by kernel_rfl) (fun _ _ _ h => h) (yieldsIf_load_mid (by rfl) 32 _ rfl _ _ rfl ks _ (fun _ h => h.2.1) u32 rfl ik) hH ?_
      try simp only [Act.put, List.setIfInBounds_toArray, List.set_cons_zero, List.set_cons_succ]
      refine wpAnyH_take (i := 1) rfl (by kernel_rfl) (by kernel_rfl) (by kernel_rfl) (fun _ _ _ h => h) (yieldsIf_load_mid (by rfl) 32 _ rfl _ _ rfl ks _ (fun _ h => h.2.1) u32 rfl ik) hH ?_
      try simp only [Act.put, List.setIfInBounds_toArray, List.set_cons_zero, List.set_cons_succ]
      refine wpAnyH_take (i := 2) rfl (by kernel_rfl) (by kernel_rfl) (by kernel_rfl) (fun _ _ _ h => h) (yieldsIf_load_mid (by rfl) 32 _ rfl _ _ rfl ls _ (fun _ h => h.2.2) u32 rfl il) hH ?_
      try simp only [Act.put, List.setIfInBounds_toArray, List.set_cons_zero, List.set_cons_succ]
      refine wpAnyH_ready (rs := [3]) (by kernel_rfl) (by simp) (AllReadyH.cons rfl (fun K' hK => ?_) AllReadyH.nil)
      go_simp
      refine (C1.out _).mono ?_
      rintro e w' ⟨rfl, hb⟩
      go_wp2_with fail
      refine hK.out _ _ (os_below hH hb) (fun hH => ?_)
      clear hK K'
      try simp only [Act.put, List.setIfInBounds_toArray, List.set_cons_zero, List.set_cons_succ]
      refine wpAnyH_ready (rs := [4]) (by kernel_rfl) (by simp) (AllReadyH.cons rfl (fun K' hK => ?_) AllReadyH.nil)
      go_simp
      refine (CK.out _).mono ?_
      rintro e w' ⟨rfl, hb⟩
      go_wp2_with fail
      refine hK.out _ _ (os_below hH hb) (fun hH => ?_)
      clear hK K'
      try simp only [Act.put, List.setIfInBounds_toArray, List.set_cons_zero, List.set_cons_succ]
      refine wpAnyH_take (i := 5) (v := .bool true) rfl (by kernel_rfl) (by kernel_rfl) (by kernel_rfl) (fun _ _ _ h => h) (Or.inl ⟨by rfl, fun W hW => ?_⟩) hH ?_
      · go_simp
      try simp only [Act.put, List.setIfInBounds_toArray, List.set_cons_zero, List.set_cons_succ]
      refine wpAnyH_take (i := 6) (v := .bool true) rfl (by kernel_rfl) (by kernel_rfl) (by kernel_rfl) (fun _ _ _ h => h) (Or.inl ⟨by rfl, fun W hW => ?_⟩) hH ?_
      · go_simp
      try simp only [Act.put, List.setIfInBounds_toArray, List.set_cons_zero, List.set_cons_succ]
      refine wpAnyH_take (i := 7) rfl (by kernel_rfl) (by kernel_rfl) (by kernel_rfl) (fun _ _ _ h => h) (yieldsIf_load_mid (by rfl) 32 _ rfl _ _ rfl ls _ (fun _ h => h.2.2) u32 rfl il) hH ?_
      try simp only [Act.put, List.setIfInBounds_toArray, List.set_cons_zero, List.set_cons_succ]
      refine wpAnyH_take (i := 8) rfl (by kernel_rfl) (by kernel_rfl) (by kernel_rfl) (fun _ _ _ h => h) (yieldsIf_load_mid (by rfl) 32 _ rfl _ _ rfl ks _ (fun _ h => h.2.1) u32 rfl ik) hH ?_
      try simp only [Act.put, List.setIfInBounds_toArray, List.set_cons_zero, List.set_cons_succ]
      refine wpAnyH_take (i := 9) rfl (by kernel_rfl) (by kernel_rfl) (by kernel_rfl) (fun _ _ _ h => h) (yieldsIf_load_mid (by rfl) 32 _ rfl _ _ rfl ls _ (fun _ h => h.2.2) u32 rfl il) hH ?_
      try simp only [Act.put, List.setIfInBounds_toArray, List.set_cons_zero, List.set_cons_succ]
      refine wpAnyH_ready (rs := [10]) (by kernel_rfl) (by simp) (AllReadyH.cons rfl (fun K' hK => ?_) AllReadyH.nil)
      go_simp
      refine (C0.out _).mono ?_
      rintro e w' ⟨rfl, hb⟩
      go_wp2_with fail
      refine hK.out _ _ (os_below hH hb) (fun hH => ?_)
      clear hK K'
      try simp only [Act.put, List.setIfInBounds_toArray, List.set_cons_zero, List.set_cons_succ]
      refine wpAnyH_ready (rs := [11]) (by kernel_rfl) (by simp) (AllReadyH.cons rfl (fun K' hK => ?_) AllReadyH.nil)
      go_simp
      refine (CL.out _).mono ?_
      rintro e w' ⟨rfl, hb⟩
      go_wp2_with fail
      refine hK.out _ _ (os_below hH hb) (fun hH => ?_)
      clear hK K'
      try simp only [Act.put, List.setIfInBounds_toArray, List.set_cons_zero, List.set_cons_succ]
      refine wpAnyH_take (i := 12) (v := .bool true) rfl (by kernel_rfl) (by kernel_rfl) (by kernel_rfl) (fun _ _ _ h => h) (Or.inl ⟨by rfl, fun W hW => ?_⟩) hH ?_
      · go_simp
      try simp only [Act.put, List.setIfInBounds_toArray, List.set_cons_zero, List.set_cons_succ]
      refine wpAnyH_take (i := 13) (v := .bool true) rfl (by kernel_rfl) (by kernel_rfl) (by kernel_rfl) (fun _ _ _ h => h) (Or.inl ⟨by rfl, fun W hW => ?_⟩) hH ?_
      · go_simp
      try simp only [Act.put, List.setIfInBounds_toArray, List.set_cons_zero, List.set_cons_succ]
      refine wpAnyH_take (i := 14) (v := .bool true) rfl (by kernel_rfl) (by kernel_rfl) (by kernel_rfl) (fun _ _ _ h => h) (Or.inl ⟨by rfl, fun W hW => ?_⟩) hH ?_
      · go_simp
      try simp only [Act.put, List.setIfInBounds_toArray, List.set_cons_zero, List.set_cons_succ]
      refine wpAnyH_ready (rs := [15]) (by kernel_rfl) (by simp) (AllReadyH.cons rfl (fun K' hK => ?_) AllReadyH.nil)
      go_simp
      refine (known_any _).mono ?_
      rintro e w' ⟨rfl, hb⟩
      go_wp2_with fail
      refine hK.out _ _ (os_below hH hb) (fun hH => ?_)
      clear hK K'
      try simp only [Act.put, List.setIfInBounds_toArray, List.set_cons_zero, List.set_cons_succ]
      refine wpAnyH_ready (rs := [16]) (by kernel_rfl) (by simp) (AllReadyH.cons rfl (fun K' hK => ?_) AllReadyH.nil)
      go_simp
      refine hK.out _ _ hH (fun hH => ?_)
      clear hK K'
      try simp only [Act.put, List.setIfInBounds_toArray, List.set_cons_zero, List.set_cons_succ]
      refine wpAnyH_ready (rs := [17]) (by kernel_rfl) (by simp) (AllReadyH.cons rfl (fun K' hK => ?_) AllReadyH.nil)
      go_simp
      refine hK.out _ _ hH (fun hH => ?_)
      clear hK K'
      try simp only [Act.put, List.setIfInBounds_toArray, List.set_cons_zero, List.set_cons_succ]
      refine wpAnyH_done (by kernel_rfl) ?_ _
      go_wp2
      go_ret
      exact ⟨rfl, hH.1.old⟩
theorem b64o {x : Int} (h : (Lit.int .u64 x).wf = true) : inV x := by
  have := bounds_u64 h
  exact ⟨by omega, by omega⟩
theorem b8o {x : Int} (h : (Lit.int .u8 x).wf = true) : 0 ≤ x ∧ x < 256 := by
  have := bounds_u8 h
  omega

set_option maxRecDepth 100000 in
theorem orders_lifted (os : Os) (started : os.Started) (H : Type) (enc : TypeId × Value → H) :
    ReturnsInHanded {} Try.checked os 7 .any (Rows.maskOrdersSpec.pre6 enc Try.prog Try.f7 Rows.maskOrdersRow.domain false) (Rows.maskOrdersSpec.post enc Try.prog Try.f7 false true false false) := by
  refine returnsInHanded_of_change (C := Try.checked) own started (by kernel_rfl) Try.func7
    (ChangeSpec.witness6 (enc := enc) (C := Try.checked) false ⟨#[], #[.int .u64 0, .int .u64 0, .int .u64 0, .agg (Array.replicate 32 (.int .u8 0)), .agg (Array.replicate 32 (.int .u8 0))], []⟩ 8 (by kernel_rfl) (by kernel_rfl) (by kernel_rfl) (by kernel_rfl)) ?_
  intro W base args ds gs before hval0 hW hcnd _
  have hval : ∀ (j : Nat) t v, Try.f7.params[j]? = some t → args[j]? = some v → Value.okWide Try.prog W .any base t v := hval0
  have hW' := hW
  obtain ⟨p, q, hA0, hV, rfl, hfz, hnd⟩ := hW
  have hA : DataW.TrodAll enc Try.prog W 0 (fun _ => true) true Try.f7.params.toList args.toList ds p := hA0
  rw [Try.params7] at hA hval
  have hAll := fun W' (hb : Below W.heap.size W W') => trodAll_below laidOut hb _ _ _ _ (by kernel_rfl) hA
  obtain ⟨v0, vs0, d0, ds0, p0, q0, hargs, rfl, rfl, h0, r0⟩ := trodAll_cons hA
  obtain ⟨v1, vs1, d1, ds1, p1, q1, rfl, rfl, rfl, h1, r1⟩ := trodAll_cons r0
  obtain ⟨v2, vs2, d2, ds2, p2, q2, rfl, rfl, rfl, h2, r2⟩ := trodAll_cons r1
  obtain ⟨v3, vs3, d3, ds3, p3, q3, rfl, rfl, rfl, h3, r3⟩ := trodAll_cons r2
  obtain ⟨v4, vs4, d4, ds4, p4, q4, rfl, rfl, rfl, h4, r4⟩ := trodAll_cons r3
  obtain ⟨rfl, rfl, rfl⟩ := trodAll_nil r4
  obtain rfl : args = #[v0, v1, v2, v3, v4] := by cases args; simp_all
  obtain ⟨rfl, rfl⟩ := trodVars_none hV
  obtain ⟨a0, rfl, rfl, rfl, w0⟩ := open_int Try.underlying22 (hval 0 22 v0 rfl rfl) h0
  obtain ⟨a1, rfl, rfl, rfl, w1⟩ := open_int Try.underlying22 (hval 1 22 v1 rfl rfl) h1
  obtain ⟨a2, rfl, rfl, rfl, w2⟩ := open_int Try.underlying22 (hval 2 22 v2 rfl rfl) h2
  obtain ⟨l3, rfl, n3, w3⟩ := open_row Try.underlying32 Try.underlying5 (by kernel_rfl) (by kernel_rfl) (hval 3 32 v3 rfl rfl) h3
  obtain ⟨l4, rfl, n4, w4⟩ := open_row Try.underlying32 Try.underlying5 (by kernel_rfl) (by kernel_rfl) (hval 4 32 v4 rfl rfl) h4
  clear hA0 hval0
  refine (orders_walk a0 a1 a2 l3 l4 (b64o w0) (b64o w1) (b64o w2) n3 n4 (fun x hx => b8o (w3 x hx)) (fun x hx => b8o (w4 x hx)) W).mono fun e W' ⟨he, bel⟩ => ?_
  subst he
  exact ⟨_, rfl, _, _, _, [], _, [], hW', trodAll_mk1 (shut_bool Try.underlying4 _), hAll W' bel, rfl, bel.frame _, fun h => by cases h⟩

theorem orders_proved : Rows.MaskOrdersSaid :=
  OpenClaim.holds_of_wide 7 Try.f7 rfl rfl rfl rfl rfl rfl rfl ⟨rfl, rfl, rfl, rfl, rfl⟩ rfl rfl rfl rfl rfl (by kernel_rfl) Try.func7 (by kernel_rfl)
    (of_decide_eq_true (by kernel_rfl)) (by unfold Func.isWrapper; first | (rw [if_pos (by decide +kernel)]; kernel_rfl) | (rw [if_neg (by decide +kernel)]; exact ⟨rfl, rfl⟩))
    (fun os started H enc _ => orders_lifted os started H enc)
end Go.Proofs.Ytgcijghhgcegcaa
