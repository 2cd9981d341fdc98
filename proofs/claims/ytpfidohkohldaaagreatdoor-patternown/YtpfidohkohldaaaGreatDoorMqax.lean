import Derived.Sort.OwnSortedInts
import Derived.Test.YtpfidohkohldaaaGreatDoorMqav
import Derived.Test.YtpfidohkohldaaaGreatDoorMqaw
import Derived.Test.YtpfidohkohldaaaGreatDoorMqam
namespace Go.Proofs.YtpfidohkohldaaaGreatDoor
set_option linter.unusedSimpArgs false
set_option linter.unusedVariables false
set_option maxRecDepth 100000
open Go.ChangeShapes Go.WideShapes Go.ChangeAt Go.RowKit Go.Pin Go.Pat Go.Deep
/-- an operation whose value is the same in all these worlds is taken first -/
theorem takeV {P : Program} {ops : Array Oper} {Q : Exit → Act → World → Prop} {S : World → Prop} {fuel : Nat} {listed : Array Bool} {a : Act} {w : World} (i : Nat) (v : Value) {o : Oper} (hi : ops[i]? = some o) (hs : Region.noSelect ops = true) (hf : Region.free .any ops listed i = true) (hr : (Region.ready .any ops listed).contains i = true)
    (hQ : ∀ c (a : Act) d v w, Q (.panic c) (a.put d v) w → Q (.panic c) a w) (hS : S w) (hw : Region.wanted o (yielded ops a.tmps) = true)
    (hrun : ∀ w, S w → (execOp a.eval o).run P w = .ok (.value v) w) (h : wpAnyH P .any ops Q S fuel (listed.setIfInBounds i true) (a.put o.dst v) w) : wpAnyH P .any ops Q S (fuel + 1) listed a w :=
  wpAnyH_take hi hs hf hr (fun _ _ _ h => hQ _ _ _ _ _ h) (.inl ⟨hw, hrun⟩) hS h
theorem takeLV {P : Program} {ops : Array Oper} {Q : Exit → Act → World → Prop} {S : World → Prop} {m fuel : Nat} {listed : Array Bool} {a : Act} {w : World} (i : Nat) (v : Value) {o om : Oper} (hi : ops[i]? = some o) (hm : ops[m]? = some om) (hwt : (om.after.any fun e => Region.binds .any e && e.on == i) = true) (hs : Region.noSelect ops = true) (hf : Region.free .any ops listed i = true) (hr : (Region.ready .any ops listed).contains i = true)
    (hQ : ∀ c (a : Act) d v w, Q (.panic c) (a.put d v) w → Q (.panic c) a w) (hS : S w) (hw : Region.wanted o (yielded ops a.tmps) = true)
    (hrun : ∀ w, S w → (execOp a.eval o).run P w = .ok (.value v) w) (h : Go.Pin.wpL P ops Q S m fuel (listed.setIfInBounds i true) (a.put o.dst v) w) : Go.Pin.wpL P ops Q S m (fuel + 1) listed a w := by
  have hwait : ∃ e ∈ om.after, Region.binds .any e = true ∧ e.on = i := by
    obtain ⟨k, hk, e⟩ := Array.any_eq_true.1 hwt
    rw [Bool.and_eq_true] at e
    exact ⟨_, Array.getElem_mem hk, e.1, by simpa using e.2⟩
  exact Go.Pin.wpL_first hi (Region.noSelect_spec hs) (fun _ _ _ h => hQ _ _ _ _ _ h) hm hwait fuel listed a w (Region.free_spec hi hf) (by simpa using hr) (.inl ⟨hw, hrun⟩) hS h
/-- the pattern that is being modified: its box m and its lists, all of one's own -/
structure MB (base m : Nat) (nm : ByteArray) (v0 v1 vl : Value) (b0 b1 : List Int) (fs : List Lv) (w : World) : Prop where
  row : w.heap[m]? = some (.cells #[.string nm, v0, v1, vl] 26)
  ex : EX base [m] [(0, v0, b0), (1, v1, b1)] fs vl w
  hb : base ≤ m
section
variable {base m : Nat} {nm : ByteArray} {v0 v1 vl : Value} {b0 b1 : List Int} {fs : List Lv} {w w' : World}
theorem MB.lt (h : MB base m nm v0 v1 vl b0 b1 fs w) : m < w.heap.size := (Array.getElem?_eq_some_iff.1 h.row).1
theorem MB.c0 (h : MB base m nm v0 v1 vl b0 b1 fs w) : w.cell? ⟨m, 0, none⟩ = some (.string nm) := by rw [cell_of_row _ _ _ _ _ _ h.row]; rfl
theorem MB.c1 (h : MB base m nm v0 v1 vl b0 b1 fs w) : w.cell? ⟨m, 1, none⟩ = some v0 := by rw [cell_of_row _ _ _ _ _ _ h.row]; rfl
theorem MB.c2 (h : MB base m nm v0 v1 vl b0 b1 fs w) : w.cell? ⟨m, 2, none⟩ = some v1 := by rw [cell_of_row _ _ _ _ _ _ h.row]; rfl
theorem MB.c3 (h : MB base m nm v0 v1 vl b0 b1 fs w) : w.cell? ⟨m, 3, none⟩ = some vl := by rw [cell_of_row _ _ _ _ _ _ h.row]; rfl
theorem MB.fz (h : MB base m nm v0 v1 vl b0 b1 fs w) (j : Nat) : w.frozen? ⟨m, j, none⟩ = false := frozen_of_row _ _ _ _ _ h.row
theorem MB.below (h : MB base m nm v0 v1 vl b0 b1 fs w) (hb : Below w.heap.size w w') : MB base m nm v0 v1 vl b0 b1 fs w' := ⟨(hb.block m h.lt).trans h.row, h.ex.below hb, h.hb⟩
end
/-- what layPSK answers -/
def LyP (base m : Nat) (nm : ByteArray) (v0 v1 vl : Value) (b0 b1 : List Int) (fs : List Lv) (s : ByteArray) (least : Nat) (w : World) (e : Ending) (w' : World) : Prop :=
  Below base w w' ∧ match nbr s fs.length with
    | none => e = .returned (.tuple #[.int .i64 0, .bool false])
    | some n => if n < least ∨ fs.length = 0 then e = .returned (.tuple #[.int .i64 0, .bool false])
      else ∃ fs', e = .returned (.tuple #[.int .i64 (n + 1 : Nat), .bool true]) ∧ MB base m nm v0 v1 vl b0 b1 fs' w' ∧ lvl fs' = if n = 0 then (lvl fs).set 0 (((lvl fs).getD 0 (0, [])).1, 7 :: ((lvl fs).getD 0 (0, [])).2) else (lvl fs).set (n - 1) (((lvl fs).getD (n - 1) (0, [])).1, ((lvl fs).getD (n - 1) (0, [])).2 ++ [7])
set_option maxHeartbeats 8000000 in
theorem layPSK_any (base m : Nat) (nm : ByteArray) (v0 v1 vl : Value) (b0 b1 : List Int) (fs : List Lv) (s : ByteArray) (least : Nat) (w : World) (h : MB base m nm v0 v1 vl b0 b1 fs w) (hn : fs.length ≤ 24) (hl : least ≤ 1000) (hs : s.size ≤ 140737488355328) (ht : ∀ f ∈ fs, 0 < f.2.2.length ∧ f.2.2.length ≤ 900) :
    Calls Tryz.prog 29 #[.pointer (some ⟨m, 0, none⟩), .string s, .int .i64 least] w (LyP base m nm v0 v1 vl b0 b1 fs s least w) := by
  obtain ⟨al, cl, rfl, hcl⟩ := h.ex.slice
  have CN := numberOf_any s fs.length hn hs w
  have H : Hid (MB base m nm v0 v1 (.slice al fs.length cl) b0 b1 fs w) := h
  have k3 := h.c3
  obtain ⟨N, hN⟩ : ∃ N, fs.length = N := ⟨_, rfl⟩
  have HN : Hid (fs.length = N ∧ N ≤ 24 ∧ N ≤ cl) := ⟨hN, by omega, by omega⟩
  unfold LyP
  rw [hN] at CN k3 H ⊢
  have bN : (N : Int) ≤ 24 := by omega
  have HT : Hid _ := ht
  clear h hn hs ht hcl hN
  cases hb : nbr s N with
  | none =>
    rw [hb] at CN
    simp only [Option.getD_none, Option.isSome_none] at CN
    clear hb
    go_enter Tryz.func29, Tryz.ntmps29
    go_wp2_with (go_at_call 55; refine CN.mono ?_; rintro e w' ⟨rfl, rfl⟩)
    go_ret2
    exact ⟨Below.refl _ _, rfl⟩
  | some n =>
    rw [hb] at CN
    simp only [Option.getD_some, Option.isSome_some] at CN
    have hnN : n ≤ N := by
      unfold nbr at hb
      split at hb
      · injection hb with hb; rename_i h; omega
      · cases hb
    by_cases hlt : n < least
    · have c1 : (n : Int) < (least : Int) := by omega
      simp only [hlt, true_or, if_true]
      clear hb
      go_enter Tryz.func29, Tryz.ntmps29
      go_wp2_with (go_at_call 55; refine CN.mono ?_; rintro e w' ⟨rfl, rfl⟩)
      go_ret2
      exact ⟨Below.refl _ _, rfl⟩
    have c1 : ¬ (n : Int) < (least : Int) := by omega
    by_cases hN0 : N = 0
    · subst hN0
      simp only [or_true, if_true]
      clear hb
      go_enter Tryz.func29, Tryz.ntmps29
      go_wp2_with (go_at_call 55; refine CN.mono ?_; rintro e w' ⟨rfl, rfl⟩)
      go_ret2
      exact ⟨Below.refl _ _, rfl⟩
    have c2 : ¬ (N : Int) = 0 := by omega
    simp only [hlt, hN0, or_self, if_false]
    have hN1 : 0 < fs.length := by have := HN.out.1; omega
    obtain ⟨T, hTT⟩ : ∃ T, T = (if n = 0 then (lvl fs).set 0 (((lvl fs).getD 0 (0, [])).1, 7 :: ((lvl fs).getD 0 (0, [])).2) else (lvl fs).set (n - 1) (((lvl fs).getD (n - 1) (0, [])).1, ((lvl fs).getD (n - 1) (0, [])).2 ++ [7])) := ⟨_, rfl⟩
    simp only [← hTT]
    have HTT : Hid _ := hTT
    clear hTT
    by_cases hn0 : n = 0
    · subst hn0
      obtain ⟨g, o, cap, e, hc, hgb, hgs, hgz, x0, x1, xf, xo, xn⟩ := H.out.ex.at (j := 0) hN1
      injection e with e1 e0 e3
      clear e0
      subst e1 e3
      obtain ⟨y, hy⟩ : ∃ y, fs.getD 0 (0, undef, []) = y := ⟨_, rfl⟩
      rw [hy] at x0 x1 xo xn
      obtain ⟨f, u, C⟩ := y
      simp only at x0 x1 xo xn
      obtain ⟨au, cu, rfl⟩ := own_slice' xo
      have hCl := HT.out (f, .slice au C.length cu, C) (by rw [← hy]; simp [List.getD, hN1])
      simp only at hCl
      have HX : Hid (_ ∧ _ ∧ _ ∧ _) := ⟨hy, xo, xn, hCl⟩
      simp only [Nat.zero_mul, Nat.add_zero] at x0 x1 xf
      clear hb xo xn hCl hy
      go_enter Tryz.func29, Tryz.ntmps29
      go_upto_region 5 with (go_at_call 55; refine CN.mono ?_; rintro e w' ⟨rfl, rfl⟩)
      have hdr := H.out.below (Below.refl w'.heap.size w').drew
      have hd3 := hdr.c3
      have hx1 : w'.drew.cell? ⟨g, o + 1, none⟩ = some (.slice au C.length cu) := x1
      have hxo : w'.drew.ownsRow base 3 1 (.slice au C.length cu) C.length (C.map (Value.int .i64)) := HX.out.2.1
      obtain ⟨wd, hwd⟩ : ∃ wd, w'.drew = wd := ⟨_, rfl⟩
      rw [hwd] at hdr hd3 hx1 hxo
      have hgd : g < wd.heap.size := by rw [← hwd]; exact hgs
      have hbw : Below base w' wd := by rw [← hwd]; exact (Below.refl _ _).drew
      refine Go.Pin.wp_region_L (fun Y => Y.cell? ⟨m, 3, none⟩ = some (.slice (some ⟨g, o, none⟩) N cl) ∧ Y.cell? ⟨g, o + 1, none⟩ = some (.slice au C.length cu)) 15 16 (by rfl) (by kernel_rfl) (by rw [hwd]; exact ⟨hd3, hx1⟩) ?_
      intro Sq fq hNq hRq hSq
      have y3 := fun x => (hRq x).1
      have y4 := fun x => (hRq x).2
      rw [hwd]
      have st0 : wd.cell? ⟨m, 3, none⟩ = some (.slice (some ⟨g, o, none⟩) N cl) ∧ wd.cell? ⟨g, o + 1, none⟩ = some (.slice au C.length cu) := ⟨hd3, hx1⟩
      have hmp : (0 : Int) < (N : Int) := by omega
      have HD : Hid (MB base m nm v0 v1 (.slice (some ⟨g, o, none⟩) N cl) b0 b1 fs wd) := hdr
      have HXO : Hid (wd.ownsRow base 3 1 (.slice au C.length cu) C.length (C.map (Value.int .i64))) := hxo
      clear hdr hd3 hx1 x0 x1 xf k3 hxo
      refine Go.Pin.takeL 0 (by simp only [List.getElem?_toArray, List.getElem?_cons_zero, List.getElem?_cons_succ]; exact rfl) (by simp only [List.getElem?_toArray, List.getElem?_cons_zero, List.getElem?_cons_succ]; exact rfl) (by kernel_rfl) (by kernel_rfl) (by kernel_rfl) (by kernel_rfl) (by rfl) (fun _ _ d _ _ h => by cases d <;> exact h) (st0) (hSq).out (by kernel_rfl) ?_
      intro Kq hKq
      go_big_quiet_op
      go_big_quiet_on
      refine takeLV 1 (.pointer (some ⟨m, 0, none⟩)) (by simp only [List.getElem?_toArray, List.getElem?_cons_zero, List.getElem?_cons_succ]; exact rfl) (by simp only [List.getElem?_toArray, List.getElem?_cons_zero, List.getElem?_cons_succ]; exact rfl) (by kernel_rfl) (by kernel_rfl) (by kernel_rfl) (by kernel_rfl) (fun _ _ d _ _ h => by cases d <;> exact h) (st0) (by kernel_rfl) (fun Yq hYq => by unfold execOp; go_simp) ?_
      simp only [Act.put, List.setIfInBounds_toArray, List.set_cons_zero, List.set_cons_succ]
      refine Go.Pin.takeL 2 (by simp only [List.getElem?_toArray, List.getElem?_cons_zero, List.getElem?_cons_succ]; exact rfl) (by simp only [List.getElem?_toArray, List.getElem?_cons_zero, List.getElem?_cons_succ]; exact rfl) (by kernel_rfl) (by kernel_rfl) (by kernel_rfl) (by kernel_rfl) (by rfl) (fun _ _ d _ _ h => by cases d <;> exact h) (st0) (hSq).out (by kernel_rfl) ?_
      intro Kq hKq
      go_big_quiet_op
      go_big_quiet_on
      refine Go.Pin.takeL 3 (by simp only [List.getElem?_toArray, List.getElem?_cons_zero, List.getElem?_cons_succ]; exact rfl) (by simp only [List.getElem?_toArray, List.getElem?_cons_zero, List.getElem?_cons_succ]; exact rfl) (by kernel_rfl) (by kernel_rfl) (by kernel_rfl) (by kernel_rfl) (by rfl) (fun _ _ d _ _ h => by cases d <;> exact h) (st0) (hSq).out (by kernel_rfl) ?_
      intro Kq hKq
      go_big_quiet_op
      go_big_quiet_on
      refine Go.Pin.takeL 4 (by simp only [List.getElem?_toArray, List.getElem?_cons_zero, List.getElem?_cons_succ]; exact rfl) (by simp only [List.getElem?_toArray, List.getElem?_cons_zero, List.getElem?_cons_succ]; exact rfl) (by kernel_rfl) (by kernel_rfl) (by kernel_rfl) (by kernel_rfl) (by rfl) (fun _ _ d _ _ h => by cases d <;> exact h) (st0) (hSq).out (by kernel_rfl) ?_
      intro Kq hKq
      go_big_quiet_op
      go_big_quiet_on
      refine takeLV 5 (.pointer (some ⟨m, 0, none⟩)) (by simp only [List.getElem?_toArray, List.getElem?_cons_zero, List.getElem?_cons_succ]; exact rfl) (by simp only [List.getElem?_toArray, List.getElem?_cons_zero, List.getElem?_cons_succ]; exact rfl) (by kernel_rfl) (by kernel_rfl) (by kernel_rfl) (by kernel_rfl) (fun _ _ d _ _ h => by cases d <;> exact h) (st0) (by kernel_rfl) (fun Yq hYq => by unfold execOp; go_simp) ?_
      simp only [Act.put, List.setIfInBounds_toArray, List.set_cons_zero, List.set_cons_succ]
      refine Go.Pin.takeL 6 (by simp only [List.getElem?_toArray, List.getElem?_cons_zero, List.getElem?_cons_succ]; exact rfl) (by simp only [List.getElem?_toArray, List.getElem?_cons_zero, List.getElem?_cons_succ]; exact rfl) (by kernel_rfl) (by kernel_rfl) (by kernel_rfl) (by kernel_rfl) (by rfl) (fun _ _ d _ _ h => by cases d <;> exact h) (st0) (hSq).out (by kernel_rfl) ?_
      intro Kq hKq
      go_big_quiet_op
      go_big_quiet_on
      refine Go.Pin.takeL 7 (by simp only [List.getElem?_toArray, List.getElem?_cons_zero, List.getElem?_cons_succ]; exact rfl) (by simp only [List.getElem?_toArray, List.getElem?_cons_zero, List.getElem?_cons_succ]; exact rfl) (by kernel_rfl) (by kernel_rfl) (by kernel_rfl) (by kernel_rfl) (by rfl) (fun _ _ d _ _ h => by cases d <;> exact h) (st0) (hSq).out (by kernel_rfl) ?_
      intro Kq hKq
      go_big_quiet_op
      go_big_quiet_on
      refine Go.Pin.takeL 8 (by simp only [List.getElem?_toArray, List.getElem?_cons_zero, List.getElem?_cons_succ]; exact rfl) (by simp only [List.getElem?_toArray, List.getElem?_cons_zero, List.getElem?_cons_succ]; exact rfl) (by kernel_rfl) (by kernel_rfl) (by kernel_rfl) (by kernel_rfl) (by rfl) (fun _ _ d _ _ h => by cases d <;> exact h) (st0) (hSq).out (by kernel_rfl) ?_
      intro Kq hKq
      go_big_quiet_op
      go_big_quiet_on
      refine Go.Pin.takeL 9 (by simp only [List.getElem?_toArray, List.getElem?_cons_zero, List.getElem?_cons_succ]; exact rfl) (by simp only [List.getElem?_toArray, List.getElem?_cons_zero, List.getElem?_cons_succ]; exact rfl) (by kernel_rfl) (by kernel_rfl) (by kernel_rfl) (by kernel_rfl) (by rfl) (fun _ _ d _ _ h => by cases d <;> exact h) (st0) (hSq).out (by kernel_rfl) ?_
      intro Kq hKq
      go_big_quiet_op
      go_big_quiet_on
      refine Go.Pin.takeL 10 (by simp only [List.getElem?_toArray, List.getElem?_cons_zero, List.getElem?_cons_succ]; exact rfl) (by simp only [List.getElem?_toArray, List.getElem?_cons_zero, List.getElem?_cons_succ]; exact rfl) (by kernel_rfl) (by kernel_rfl) (by kernel_rfl) (by kernel_rfl) (by rfl) (fun _ _ d _ _ h => by cases d <;> exact h) (st0) (hSq).out (by kernel_rfl) ?_
      intro Kq hKq
      go_big_quiet_op
      go_big_quiet_on
      have hal := (Below.refl wd.heap.size wd).alloc (Nat.le_refl _) (.cells #[.int .i64 7] 3)
      have hm1 := HD.out.below hal
      have hz1 := HD.out.lt
      have st1 : (wd.alloc (.cells #[.int .i64 7] 3)).cell? ⟨m, 3, none⟩ = some (.slice (some ⟨g, o, none⟩) N cl) ∧ (wd.alloc (.cells #[.int .i64 7] 3)).cell? ⟨g, o + 1, none⟩ = some (.slice au C.length cu) := ⟨hm1.c3, (World.cell?_of_block (a := ⟨g, o + 1, none⟩) (hal.block g hgd)).trans st0.2⟩
      have hv7 : (wd.alloc (.cells #[.int .i64 7] 3)).heap[wd.heap.size]? = some (.cells #[.int .i64 7] 3) := heap_alloc_new _ _
      have hxo1 := owns_below hal HXO.out
      have hnev : (Value.slice au C.length cu).ownBlock ≠ some wd.heap.size := fun e => by have := (HXO.out.lt _ e).2; omega
      have hbs : base ≤ (wd.alloc (.cells #[.int .i64 7] 3)).heap.size := by rw [size_alloc]; have := HD.out.hb; omega
      refine Go.Pin.readyL 11 (by simp only [List.getElem?_toArray, List.getElem?_cons_zero, List.getElem?_cons_succ]; exact rfl) (by kernel_rfl) (by kernel_rfl) ?_
      intro K hK
      refine wpRun (d := some 48) (v := .slice (some ⟨wd.heap.size, 0, none⟩) 1 1) (w' := wd.alloc (.cells #[.int .i64 7] 3)) rfl (by unfold execOp; go_simp) (hK _ _ (.inr st1) ?_)
      simp only [Act.put, List.setIfInBounds_toArray, List.set_cons_zero, List.set_cons_succ]
      clear hK K
      refine Go.Pin.readyL 12 (by simp only [List.getElem?_toArray, List.getElem?_cons_zero, List.getElem?_cons_succ]; exact rfl) (by kernel_rfl) (by kernel_rfl) ?_
      intro K hK
      refine wpCallV (d := some 49) (f := 56) (R := fun x w6 => w6.ownsRow base 3 1 x (7 :: C).length ((7 :: C).map (Value.int .i64)) ∧ (wd.alloc (.cells #[.int .i64 7] 3)).grownBy w6 (Value.slice au C.length cu).ownBlock ∧ (x.ownBlock = (Value.slice au C.length cu).ownBlock ∨ x.ownBlock = some (wd.alloc (.cells #[.int .i64 7] 3)).heap.size)) rfl rfl (args := #[.slice au C.length cu, .int .i64 0, .slice (some ⟨wd.heap.size, 0, none⟩) 1 1]) (by simp only [List.map_toArray, List.map_cons, List.map_nil]; rfl) (fun _ => rfl) (insert7 base _ C wd.heap.size _ hxo1 HX.out.2.2.2.1 (by have := HX.out.2.2.2.2; omega) hv7 hnev hbs) ?_
      rintro x w6 ⟨hx6, hg6, hb6⟩
      obtain ⟨an, cn, rfl⟩ := own_slice' hx6
      have hgr : wd.grownBy w6 (Value.slice au C.length cu).ownBlock := (World.grownBy_alloc wd _ _).trans hg6
      have hput := HD.out.ex.put (z := [m]) (fun k hk => by simp at hk; omega) (g := g) (o := o) (cap := cl) (j := 0) (by rw [HN.out.1]) hN1 (w' := w6) hgr (fun k hk => .inr (by rw [HX.out.1]; exact hk)) hx6 (by
        rw [HX.out.1]
        rcases hb6 with h | h
        · exact .inl h
        · refine .inr (fun k hk => ?_)
          rw [hk, size_alloc] at h
          injection h with h
          omega)
      have hrow6 : w6.heap[m]? = some (.cells #[.string nm, v0, v1, .slice (some ⟨g, o, none⟩) N cl] 26) := (hgr.block m hz1 (fun e => (HX.out.2.2.1 m e.symm).2 (by simp))).trans HD.out.row
      have hbw6 : Below base w' w6 := hbw.grown hgr (Nat.le_trans HD.out.hb (Nat.le_of_lt hz1)) (fun k hk => (HXO.out.lt k hk).1)
      rw [HX.out.1] at hput
      simp only [Nat.zero_mul, Nat.add_zero] at hput
      obtain ⟨hp1, hp2, hp3⟩ := hput
      have st6 : w6.cell? ⟨m, 3, none⟩ = some (.slice (some ⟨g, o, none⟩) N cl) ∧ w6.cell? ⟨g, o + 1, none⟩ = some (.slice au C.length cu) := ⟨by rw [cell_of_row _ _ _ _ _ _ hrow6]; rfl, hp2⟩
      refine hK _ _ (.inr st6) ?_
      simp only [Act.put, List.setIfInBounds_toArray, List.set_cons_zero, List.set_cons_succ]
      clear hK K
      refine Go.Pin.readyL 13 (by simp only [List.getElem?_toArray, List.getElem?_cons_zero, List.getElem?_cons_succ]; exact rfl) (by kernel_rfl) (by kernel_rfl) ?_
      intro K hK
      refine wpRun (d := some 50) (v := .pointer (some ⟨g, o, none⟩)) (w' := w6) rfl (by unfold execOp; go_simp) (hK _ _ (.inr st6) ?_)
      simp only [Act.put, List.setIfInBounds_toArray, List.set_cons_zero, List.set_cons_succ]
      clear hK K
      refine Go.Pin.readyL 14 (by simp only [List.getElem?_toArray, List.getElem?_cons_zero, List.getElem?_cons_succ]; exact rfl) (by kernel_rfl) (by kernel_rfl) ?_
      intro K hK
      refine wpRun (d := some 51) (v := .pointer (some ⟨g, o + 1, none⟩)) (w' := w6) rfl (by unfold execOp; go_simp) (hK _ _ (.inr st6) ?_)
      simp only [Act.put, List.setIfInBounds_toArray, List.set_cons_zero, List.set_cons_succ]
      clear hK K
      refine Go.Pin.readyL 15 (by simp only [List.getElem?_toArray, List.getElem?_cons_zero, List.getElem?_cons_succ]; exact rfl) (by kernel_rfl) (by kernel_rfl) ?_
      intro K hK
      refine wpSkp (d := none) (w' := w6.setCell ⟨g, o + 1, none⟩ (.slice an (7 :: C).length cn)) rfl (by unfold execOp; go_simp) (hK _ _ (.inl rfl) ?_)
      simp only [Act.put, List.setIfInBounds_toArray, List.set_cons_zero, List.set_cons_succ]
      clear hK K
      refine Go.Pin.wpL_done (by kernel_rfl) ?_
      have hgm : g ≠ m := fun e => hgz (by rw [e]; simp)
      have hrow7 : (w6.setCell ⟨g, o + 1, none⟩ (.slice an (7 :: C).length cn)).heap[m]? = some (.cells #[.string nm, v0, v1, .slice (some ⟨g, o, none⟩) N cl] 26) := (heap_setCell_other _ _ _ _ (by show m ≠ g; exact fun e => hgm e.symm)).trans hrow6
      have hbw7 : Below base w' (w6.setCell ⟨g, o + 1, none⟩ (.slice an (7 :: C).length cn)) := hbw6.setCell (p := ⟨g, o + 1, none⟩) hgb _
      have HEND : Hid (MB base m nm v0 v1 (.slice (some ⟨g, o, none⟩) N cl) b0 b1 (fs.set 0 (f, .slice an (7 :: C).length cn, 7 :: C)) (w6.setCell ⟨g, o + 1, none⟩ (.slice an (7 :: C).length cn)) ∧ Below base w' (w6.setCell ⟨g, o + 1, none⟩ (.slice an (7 :: C).length cn))) := ⟨⟨hrow7, hp1, HD.out.hb⟩, hbw7⟩
      obtain ⟨w7, hw7⟩ : ∃ w7, w6.setCell ⟨g, o + 1, none⟩ (.slice an (7 :: C).length cn) = w7 := ⟨_, rfl⟩
      rw [hw7] at HEND ⊢
      clear hw7 hrow7 hbw7 hp1 hp2 hp3 st6 st1 st0 hrow6 hgr hx6 hg6 hb6 hal hm1 hv7 hxo1 hnev hbs hSq hRq hNq y3 y4 hbw hbw6 hwd CN
      go_wp2
      go_ret2
      have hlg : (lvl fs).getD 0 (0, []) = (f, C) := by
        have := HX.out.1
        have h2 : (lvl fs).getD 0 (0, []) = ((fs.getD 0 (0, undef, [])).1, (fs.getD 0 (0, undef, [])).2.2) := by simp [lvl, List.getD, hN1]
        rw [h2, this]
      exact ⟨HEND.out.2, _, rfl, HEND.out.1, by rw [HTT.out, if_pos trivial, lvl_set, hlg]⟩
    · obtain ⟨j, rfl⟩ : ∃ j, n = j + 1 := ⟨n - 1, by omega⟩
      have hjN : j < fs.length := by have := HN.out.1; omega
      have hjN2 : j < N := by omega
      have c5 : ¬ ((j + 1 : Nat) : Int) = 0 := by omega
      have c6 : (j : Int) < (N : Int) := by omega
      have c7 : (0 : Int) ≤ (j : Int) := by omega
      have c8 : ((j + 1 : Nat) : Int) = (j : Int) + 1 := by omega
      rw [c8] at CN c1 c5
      have c9 : decide ((j : Int) + 1 < (least : Int)) = false := decide_eq_false c1
      have c10 : ((N : Int) == 0) = false := by simp; omega
      obtain ⟨g, o, cap, e, hc, hgb, hgs, hgz, x0, x1, xf, xo, xn⟩ := H.out.ex.at (j := j) hjN
      injection e with e1 e0 e3
      clear e0
      subst e1 e3
      obtain ⟨y, hy⟩ : ∃ y, fs.getD j (0, undef, []) = y := ⟨_, rfl⟩
      rw [hy] at x0 x1 xo xn
      obtain ⟨f, u, C⟩ := y
      simp only at x0 x1 xo xn
      obtain ⟨au, cu, rfl⟩ := own_slice' xo
      have hCl := HT.out (f, .slice au C.length cu, C) (by rw [← hy]; simp [List.getD, hjN])
      simp only at hCl
      have HX : Hid (_ ∧ _ ∧ _ ∧ _) := ⟨hy, xo, xn, hCl⟩
      clear hb xo xn hCl hy
      go_enter Tryz.func29, Tryz.ntmps29
      go_upto_region 6 with (go_at_call 55; refine CN.mono ?_; rintro e w' ⟨rfl, rfl⟩)
      have hdr := H.out.below (Below.refl w'.heap.size w').drew
      have hd3 := hdr.c3
      have hx1 : w'.drew.cell? ⟨g, o + j * 2 + 1, none⟩ = some (.slice au C.length cu) := x1
      have hxo : w'.drew.ownsRow base 3 1 (.slice au C.length cu) C.length (C.map (Value.int .i64)) := HX.out.2.1
      obtain ⟨wd, hwd⟩ : ∃ wd, w'.drew = wd := ⟨_, rfl⟩
      rw [hwd] at hdr hd3 hx1 hxo
      have hgd : g < wd.heap.size := by rw [← hwd]; exact hgs
      have hbw : Below base w' wd := by rw [← hwd]; exact (Below.refl _ _).drew
      refine Go.Pin.wp_region_L (fun Y => Y.cell? ⟨m, 3, none⟩ = some (.slice (some ⟨g, o, none⟩) N cl) ∧ Y.cell? ⟨g, o + j * 2 + 1, none⟩ = some (.slice au C.length cu)) 19 20 (by rfl) (by kernel_rfl) (by rw [hwd]; exact ⟨hd3, hx1⟩) ?_
      intro Sq fq hNq hRq hSq
      have y3 := fun x => (hRq x).1
      have y4 := fun x => (hRq x).2
      rw [hwd]
      have st0 : wd.cell? ⟨m, 3, none⟩ = some (.slice (some ⟨g, o, none⟩) N cl) ∧ wd.cell? ⟨g, o + j * 2 + 1, none⟩ = some (.slice au C.length cu) := ⟨hd3, hx1⟩
      have HD : Hid (MB base m nm v0 v1 (.slice (some ⟨g, o, none⟩) N cl) b0 b1 fs wd) := hdr
      have HXO : Hid (wd.ownsRow base 3 1 (.slice au C.length cu) C.length (C.map (Value.int .i64))) := hxo
      clear hdr hd3 hx1 x0 x1 xf k3 hxo
      refine Go.Pin.takeL 0 (by simp only [List.getElem?_toArray, List.getElem?_cons_zero, List.getElem?_cons_succ]; exact rfl) (by simp only [List.getElem?_toArray, List.getElem?_cons_zero, List.getElem?_cons_succ]; exact rfl) (by kernel_rfl) (by kernel_rfl) (by kernel_rfl) (by kernel_rfl) (by rfl) (fun _ _ d _ _ h => by cases d <;> exact h) (st0) (hSq).out (by kernel_rfl) ?_
      intro Kq hKq
      go_big_quiet_op
      go_big_quiet_on
      refine takeLV 1 (.pointer (some ⟨m, 0, none⟩)) (by simp only [List.getElem?_toArray, List.getElem?_cons_zero, List.getElem?_cons_succ]; exact rfl) (by simp only [List.getElem?_toArray, List.getElem?_cons_zero, List.getElem?_cons_succ]; exact rfl) (by kernel_rfl) (by kernel_rfl) (by kernel_rfl) (by kernel_rfl) (fun _ _ d _ _ h => by cases d <;> exact h) (st0) (by kernel_rfl) (fun Yq hYq => by unfold execOp; go_simp) ?_
      simp only [Act.put, List.setIfInBounds_toArray, List.set_cons_zero, List.set_cons_succ]
      refine Go.Pin.takeL 2 (by simp only [List.getElem?_toArray, List.getElem?_cons_zero, List.getElem?_cons_succ]; exact rfl) (by simp only [List.getElem?_toArray, List.getElem?_cons_zero, List.getElem?_cons_succ]; exact rfl) (by kernel_rfl) (by kernel_rfl) (by kernel_rfl) (by kernel_rfl) (by rfl) (fun _ _ d _ _ h => by cases d <;> exact h) (st0) (hSq).out (by kernel_rfl) ?_
      intro Kq hKq
      go_big_quiet_op
      go_big_quiet_on
      refine Go.Pin.takeL 3 (by simp only [List.getElem?_toArray, List.getElem?_cons_zero, List.getElem?_cons_succ]; exact rfl) (by simp only [List.getElem?_toArray, List.getElem?_cons_zero, List.getElem?_cons_succ]; exact rfl) (by kernel_rfl) (by kernel_rfl) (by kernel_rfl) (by kernel_rfl) (by rfl) (fun _ _ d _ _ h => by cases d <;> exact h) (st0) (hSq).out (by kernel_rfl) ?_
      intro Kq hKq
      go_big_quiet_op
      go_big_quiet_on
      refine Go.Pin.takeL 4 (by simp only [List.getElem?_toArray, List.getElem?_cons_zero, List.getElem?_cons_succ]; exact rfl) (by simp only [List.getElem?_toArray, List.getElem?_cons_zero, List.getElem?_cons_succ]; exact rfl) (by kernel_rfl) (by kernel_rfl) (by kernel_rfl) (by kernel_rfl) (by rfl) (fun _ _ d _ _ h => by cases d <;> exact h) (st0) (hSq).out (by kernel_rfl) ?_
      intro Kq hKq
      go_big_quiet_op
      go_big_quiet_on
      refine Go.Pin.takeL 5 (by simp only [List.getElem?_toArray, List.getElem?_cons_zero, List.getElem?_cons_succ]; exact rfl) (by simp only [List.getElem?_toArray, List.getElem?_cons_zero, List.getElem?_cons_succ]; exact rfl) (by kernel_rfl) (by kernel_rfl) (by kernel_rfl) (by kernel_rfl) (by rfl) (fun _ _ d _ _ h => by cases d <;> exact h) (st0) (hSq).out (by kernel_rfl) ?_
      intro Kq hKq
      go_big_quiet_op
      go_big_quiet_on
      refine Go.Pin.takeL 6 (by simp only [List.getElem?_toArray, List.getElem?_cons_zero, List.getElem?_cons_succ]; exact rfl) (by simp only [List.getElem?_toArray, List.getElem?_cons_zero, List.getElem?_cons_succ]; exact rfl) (by kernel_rfl) (by kernel_rfl) (by kernel_rfl) (by kernel_rfl) (by rfl) (fun _ _ d _ _ h => by cases d <;> exact h) (st0) (hSq).out (by kernel_rfl) ?_
      intro Kq hKq
      go_big_quiet_op
      go_big_quiet_on
      refine takeLV 7 (.pointer (some ⟨m, 0, none⟩)) (by simp only [List.getElem?_toArray, List.getElem?_cons_zero, List.getElem?_cons_succ]; exact rfl) (by simp only [List.getElem?_toArray, List.getElem?_cons_zero, List.getElem?_cons_succ]; exact rfl) (by kernel_rfl) (by kernel_rfl) (by kernel_rfl) (by kernel_rfl) (fun _ _ d _ _ h => by cases d <;> exact h) (st0) (by kernel_rfl) (fun Yq hYq => by unfold execOp; go_simp) ?_
      simp only [Act.put, List.setIfInBounds_toArray, List.set_cons_zero, List.set_cons_succ]
      refine Go.Pin.takeL 8 (by simp only [List.getElem?_toArray, List.getElem?_cons_zero, List.getElem?_cons_succ]; exact rfl) (by simp only [List.getElem?_toArray, List.getElem?_cons_zero, List.getElem?_cons_succ]; exact rfl) (by kernel_rfl) (by kernel_rfl) (by kernel_rfl) (by kernel_rfl) (by rfl) (fun _ _ d _ _ h => by cases d <;> exact h) (st0) (hSq).out (by kernel_rfl) ?_
      intro Kq hKq
      go_big_quiet_op
      go_big_quiet_on
      refine Go.Pin.takeL 9 (by simp only [List.getElem?_toArray, List.getElem?_cons_zero, List.getElem?_cons_succ]; exact rfl) (by simp only [List.getElem?_toArray, List.getElem?_cons_zero, List.getElem?_cons_succ]; exact rfl) (by kernel_rfl) (by kernel_rfl) (by kernel_rfl) (by kernel_rfl) (by rfl) (fun _ _ d _ _ h => by cases d <;> exact h) (st0) (hSq).out (by kernel_rfl) ?_
      intro Kq hKq
      go_big_quiet_op
      go_big_quiet_on
      refine Go.Pin.takeL 10 (by simp only [List.getElem?_toArray, List.getElem?_cons_zero, List.getElem?_cons_succ]; exact rfl) (by simp only [List.getElem?_toArray, List.getElem?_cons_zero, List.getElem?_cons_succ]; exact rfl) (by kernel_rfl) (by kernel_rfl) (by kernel_rfl) (by kernel_rfl) (by rfl) (fun _ _ d _ _ h => by cases d <;> exact h) (st0) (hSq).out (by kernel_rfl) ?_
      intro Kq hKq
      go_big_quiet_op
      go_big_quiet_on
      refine Go.Pin.takeL 11 (by simp only [List.getElem?_toArray, List.getElem?_cons_zero, List.getElem?_cons_succ]; exact rfl) (by simp only [List.getElem?_toArray, List.getElem?_cons_zero, List.getElem?_cons_succ]; exact rfl) (by kernel_rfl) (by kernel_rfl) (by kernel_rfl) (by kernel_rfl) (by rfl) (fun _ _ d _ _ h => by cases d <;> exact h) (st0) (hSq).out (by kernel_rfl) ?_
      intro Kq hKq
      go_big_quiet_op
      go_big_quiet_on
      refine Go.Pin.takeL 12 (by simp only [List.getElem?_toArray, List.getElem?_cons_zero, List.getElem?_cons_succ]; exact rfl) (by simp only [List.getElem?_toArray, List.getElem?_cons_zero, List.getElem?_cons_succ]; exact rfl) (by kernel_rfl) (by kernel_rfl) (by kernel_rfl) (by kernel_rfl) (by rfl) (fun _ _ d _ _ h => by cases d <;> exact h) (st0) (hSq).out (by kernel_rfl) ?_
      intro Kq hKq
      go_big_quiet_op
      go_big_quiet_on
      refine Go.Pin.takeL 13 (by simp only [List.getElem?_toArray, List.getElem?_cons_zero, List.getElem?_cons_succ]; exact rfl) (by simp only [List.getElem?_toArray, List.getElem?_cons_zero, List.getElem?_cons_succ]; exact rfl) (by kernel_rfl) (by kernel_rfl) (by kernel_rfl) (by kernel_rfl) (by rfl) (fun _ _ d _ _ h => by cases d <;> exact h) (st0) (hSq).out (by kernel_rfl) ?_
      intro Kq hKq
      go_big_quiet_op
      go_big_quiet_on
      refine Go.Pin.takeL 14 (by simp only [List.getElem?_toArray, List.getElem?_cons_zero, List.getElem?_cons_succ]; exact rfl) (by simp only [List.getElem?_toArray, List.getElem?_cons_zero, List.getElem?_cons_succ]; exact rfl) (by kernel_rfl) (by kernel_rfl) (by kernel_rfl) (by kernel_rfl) (by rfl) (fun _ _ d _ _ h => by cases d <;> exact h) (st0) (hSq).out (by kernel_rfl) ?_
      intro Kq hKq
      go_big_quiet_op
      go_big_quiet_on
      have hal := (Below.refl wd.heap.size wd).alloc (Nat.le_refl _) (.cells #[.int .i64 7] 3)
      have hm1 := HD.out.below hal
      have hz1 := HD.out.lt
      have st1 : (wd.alloc (.cells #[.int .i64 7] 3)).cell? ⟨m, 3, none⟩ = some (.slice (some ⟨g, o, none⟩) N cl) ∧ (wd.alloc (.cells #[.int .i64 7] 3)).cell? ⟨g, o + j * 2 + 1, none⟩ = some (.slice au C.length cu) := ⟨hm1.c3, (World.cell?_of_block (a := ⟨g, o + j * 2 + 1, none⟩) (hal.block g hgd)).trans st0.2⟩
      have hz0 : base ≤ wd.heap.size := Nat.le_trans HD.out.hb (Nat.le_of_lt hz1)
      have happ : ∀ ty, ∃ v' w6, (Builtin.append_ #[22, 22] ty #[.slice au C.length cu, .slice (some ⟨wd.heap.size, 0, none⟩) 1 1]).run Tryz.prog (wd.alloc (.cells #[.int .i64 7] 3)) = .ok v' w6 ∧ (w6.ownsRow base 3 1 v' (C ++ [7]).length ((C ++ [7]).map (Value.int .i64)) ∧ (wd.alloc (.cells #[.int .i64 7] 3)).grownBy w6 (Value.slice au C.length cu).ownBlock ∧ (v'.ownBlock = (Value.slice au C.length cu).ownBlock ∨ v'.ownBlock = some (wd.alloc (.cells #[.int .i64 7] 3)).heap.size)) := fun ty => by
        have h1 : (wd.alloc (.cells #[.int .i64 7] 3)).ownsRow base 3 1 (.slice (some ⟨wd.heap.size, 0, none⟩) 1 1) [(7 : Int)].length ([(7 : Int)].map (Value.int .i64)) := ⟨rfl, .inr ⟨wd.heap.size, 1, #[.int .i64 7], rfl, hz0, heap_alloc_new _ _, Nat.le_refl _, by simp [maxLen], rfl, rfl⟩⟩
        obtain ⟨v', w6, k1, k2, k3⟩ := own_appN (owns_below hal HXO.out) (own_ints h1 (by simp)) (by have := HX.out.2.2.2.2; simp; omega) (by rw [size_alloc]; omega) ty
        exact ⟨v', w6, k1, by simpa using k2, k3⟩
      refine Go.Pin.readyL 15 (by simp only [List.getElem?_toArray, List.getElem?_cons_zero, List.getElem?_cons_succ]; exact rfl) (by kernel_rfl) (by kernel_rfl) ?_
      intro K hK
      refine wpRun (d := some 67) (v := .slice (some ⟨wd.heap.size, 0, none⟩) 1 1) (w' := wd.alloc (.cells #[.int .i64 7] 3)) rfl (by unfold execOp; go_simp) (hK _ _ (.inr st1) ?_)
      simp only [Act.put, List.setIfInBounds_toArray, List.set_cons_zero, List.set_cons_succ]
      clear hK K
      refine Go.Pin.readyL 16 (by simp only [List.getElem?_toArray, List.getElem?_cons_zero, List.getElem?_cons_succ]; exact rfl) (by kernel_rfl) (by kernel_rfl) ?_
      intro K hK
      refine wpApp (d := some 68) (v := .slice au C.length cu) (u := .slice (some ⟨wd.heap.size, 0, none⟩) 1 1) (R := fun v' w6 => w6.ownsRow base 3 1 v' (C ++ [7]).length ((C ++ [7]).map (Value.int .i64)) ∧ (wd.alloc (.cells #[.int .i64 7] 3)).grownBy w6 (Value.slice au C.length cu).ownBlock ∧ (v'.ownBlock = (Value.slice au C.length cu).ownBlock ∨ v'.ownBlock = some (wd.alloc (.cells #[.int .i64 7] 3)).heap.size)) rfl rfl rfl rfl happ ?_
      rintro x w6 ⟨hx6, hg6, hb6⟩
      obtain ⟨an, cn, rfl⟩ := own_slice' hx6
      have hgr : wd.grownBy w6 (Value.slice au C.length cu).ownBlock := (World.grownBy_alloc wd _ _).trans hg6
      have hput := HD.out.ex.put (z := [m]) (fun k hk => by simp at hk; omega) (g := g) (o := o) (cap := cl) (j := j) (by rw [HN.out.1]) hjN (w' := w6) hgr (fun k hk => .inr (by rw [HX.out.1]; exact hk)) hx6 (by
        rw [HX.out.1]
        rcases hb6 with h | h
        · exact .inl h
        · refine .inr (fun k hk => ?_)
          rw [hk, size_alloc] at h
          injection h with h
          omega)
      have hrow6 : w6.heap[m]? = some (.cells #[.string nm, v0, v1, .slice (some ⟨g, o, none⟩) N cl] 26) := (hgr.block m hz1 (fun e => (HX.out.2.2.1 m e.symm).2 (by simp))).trans HD.out.row
      have hbw6 : Below base w' w6 := hbw.grown hgr (Nat.le_trans HD.out.hb (Nat.le_of_lt hz1)) (fun k hk => (HXO.out.lt k hk).1)
      rw [HX.out.1] at hput
      simp only at hput
      obtain ⟨hp1, hp2, hp3⟩ := hput
      have st6 : w6.cell? ⟨m, 3, none⟩ = some (.slice (some ⟨g, o, none⟩) N cl) ∧ w6.cell? ⟨g, o + j * 2 + 1, none⟩ = some (.slice au C.length cu) := ⟨by rw [cell_of_row _ _ _ _ _ _ hrow6]; rfl, hp2⟩
      refine hK _ _ (.inr st6) ?_
      simp only [Act.put, List.setIfInBounds_toArray, List.set_cons_zero, List.set_cons_succ]
      clear hK K
      refine Go.Pin.readyL 17 (by simp only [List.getElem?_toArray, List.getElem?_cons_zero, List.getElem?_cons_succ]; exact rfl) (by kernel_rfl) (by kernel_rfl) ?_
      intro K hK
      refine wpRun (d := some 69) (v := .pointer (some ⟨g, o + j * 2, none⟩)) (w' := w6) rfl (by unfold execOp; go_simp) (hK _ _ (.inr st6) ?_)
      simp only [Act.put, List.setIfInBounds_toArray, List.set_cons_zero, List.set_cons_succ]
      clear hK K
      refine Go.Pin.readyL 18 (by simp only [List.getElem?_toArray, List.getElem?_cons_zero, List.getElem?_cons_succ]; exact rfl) (by kernel_rfl) (by kernel_rfl) ?_
      intro K hK
      refine wpRun (d := some 70) (v := .pointer (some ⟨g, o + j * 2 + 1, none⟩)) (w' := w6) rfl (by unfold execOp; go_simp) (hK _ _ (.inr st6) ?_)
      simp only [Act.put, List.setIfInBounds_toArray, List.set_cons_zero, List.set_cons_succ]
      clear hK K
      refine Go.Pin.readyL 19 (by simp only [List.getElem?_toArray, List.getElem?_cons_zero, List.getElem?_cons_succ]; exact rfl) (by kernel_rfl) (by kernel_rfl) ?_
      intro K hK
      refine wpSkp (d := none) (w' := w6.setCell ⟨g, o + j * 2 + 1, none⟩ (.slice an (C ++ [7]).length cn)) rfl (by unfold execOp; go_simp) (hK _ _ (.inl rfl) ?_)
      simp only [Act.put, List.setIfInBounds_toArray, List.set_cons_zero, List.set_cons_succ]
      clear hK K
      refine Go.Pin.wpL_done (by kernel_rfl) ?_
      have hgm : g ≠ m := fun e => hgz (by rw [e]; simp)
      have hrow7 : (w6.setCell ⟨g, o + j * 2 + 1, none⟩ (.slice an (C ++ [7]).length cn)).heap[m]? = some (.cells #[.string nm, v0, v1, .slice (some ⟨g, o, none⟩) N cl] 26) := (heap_setCell_other _ _ _ _ (by show m ≠ g; exact fun e => hgm e.symm)).trans hrow6
      have hbw7 : Below base w' (w6.setCell ⟨g, o + j * 2 + 1, none⟩ (.slice an (C ++ [7]).length cn)) := hbw6.setCell (p := ⟨g, o + j * 2 + 1, none⟩) hgb _
      have HEND : Hid (MB base m nm v0 v1 (.slice (some ⟨g, o, none⟩) N cl) b0 b1 (fs.set j (f, .slice an (C ++ [7]).length cn, C ++ [7])) (w6.setCell ⟨g, o + j * 2 + 1, none⟩ (.slice an (C ++ [7]).length cn)) ∧ Below base w' (w6.setCell ⟨g, o + j * 2 + 1, none⟩ (.slice an (C ++ [7]).length cn))) := ⟨⟨hrow7, hp1, HD.out.hb⟩, hbw7⟩
      obtain ⟨w7, hw7⟩ : ∃ w7, w6.setCell ⟨g, o + j * 2 + 1, none⟩ (.slice an (C ++ [7]).length cn) = w7 := ⟨_, rfl⟩
      rw [hw7] at HEND ⊢
      clear hw7 hrow7 hbw7 hp1 hp2 hp3 st6 st1 st0 hrow6 hgr hx6 hg6 hb6 hal hm1 happ hz0 hSq hRq hNq y3 y4 hbw hbw6 hwd CN
      go_wp2
      go_ret2
      have hlg : (lvl fs).getD j (0, []) = (f, C) := by
        have := HX.out.1
        have h2 : (lvl fs).getD j (0, []) = ((fs.getD j (0, undef, [])).1, (fs.getD j (0, undef, [])).2.2) := by simp [lvl, List.getD, hjN]
        rw [h2, this]
      exact ⟨HEND.out.2, _, rfl, HEND.out.1, by rw [HTT.out, if_neg (by omega), lvl_set, show j + 1 - 1 = j by omega, hlg]⟩
end Go.Proofs.YtpfidohkohldaaaGreatDoor
/- slices.Concat of two lists, slices.Sort of a list of one's own -/
namespace Go.Proofs.YtpfidohkohldaaaGreatDoor
set_option linter.unusedSimpArgs false
set_option linter.unusedVariables false
set_option maxRecDepth 100000
open Go.ChangeShapes Go.WideShapes Go.ChangeAt Go.RowKit Go.Pin Go.Pat
theorem grow_nil (n : Nat) (hn : n ≤ 10000) (w : World) :
    Calls Tryz.prog 69 #[.slice none 0 0, .int .i64 n] w fun e w' => ∃ v, e = .returned v ∧ w'.ownsRow w.heap.size 3 1 v 0 [] ∧ Below w.heap.size w w' := by
  by_cases h0 : n = 0
  · subst h0
    refine (Any8.slices_Grow_room Tryz.laysGrw none 0 0 0 w (Nat.le_refl _) (by omega) (by omega) (by omega)).mono ?_
    rintro e w' ⟨rfl, rfl⟩
    exact ⟨_, rfl, ⟨rfl, .inl ⟨rfl, rfl⟩⟩, Below.refl _ _⟩
  · obtain ⟨i0, hi, hz⟩ := Option.map_eq_some_iff.1 (show (Tryz.prog.info? 3).map (fun i => (i.zero, i.size, i.bytes)) = some (some (.int .i64 0), 1, 8) by kernel_rfl)
    simp only [Prod.mk.injEq] at hz
    obtain ⟨z1, z2, z3⟩ := hz
    refine (Any8.slices_Grow_grow Tryz.laysGrw i0 (.int .i64 0) hi z1 (by rw [z2]; decide) none 0 0 n [] w (Nat.le_refl _) (by omega) (by rw [z3]; omega) (by omega) (by simp) (fun _ => rfl) (fun a h => by cases h)).mono ?_
    rintro e w' ⟨rfl, rfl⟩
    obtain ⟨gc, hgc⟩ : ∃ gc, grownCap w (0 + n) 0 (Tryz.laysGrw_ren.t 25) = gc := ⟨_, rfl⟩
    have hge : 0 + n ≤ gc := by rw [← hgc]; exact grownCap_ge _ _ _ _
    have hle : gc ≤ maxLen := by rw [← hgc]; exact grownCap_le_maxLen _ _ _ _ (by unfold maxLen; omega)
    rw [hgc]
    refine ⟨_, rfl, ⟨rfl, .inr ⟨w.heap.size, gc, _, rfl, Nat.le_refl _, heap_alloc_new _ _, Nat.zero_le _, hle, ?_, by simp⟩⟩, ((Below.refl _ _).drew).alloc (Nat.le_refl _) _⟩
    simp [size_zeroCells, Value.cells]
    omega
set_option maxHeartbeats 4000000 in
theorem concat2 (sb : Nat) (u0 u1 : Value) (A B : List Int) (w : World) (hs : w.heap[sb]? = some (.cells #[u0, u1] 22)) (h0 : RdN w u0 A) (h1 : RdN w u1 B) (hA : A.length ≤ 1000) (hB : B.length ≤ 1000) :
    Calls Tryz.prog 53 #[.slice (some ⟨sb, 0, none⟩) 2 2] w fun e w' => ∃ x, e = .returned x ∧ w'.ownsRow w.heap.size 3 1 x (A ++ B).length ((A ++ B).map (Value.int .i64)) ∧ Below w.heap.size w w' := by
  obtain ⟨a0, k0, rfl, -⟩ := id h0
  obtain ⟨a1, k1, rfl, -⟩ := id h1
  have hsb := (Array.getElem?_eq_some_iff.1 hs).1
  have HA : Hid (∀ Y, Below w.heap.size w Y → RdN Y (.slice a0 A.length k0) A) := fun Y h => h0.below h
  have HB : Hid (∀ Y, Below w.heap.size w Y → RdN Y (.slice a1 B.length k1) B) := fun Y h => h1.below h
  have HC : Hid (∀ Y, Below w.heap.size w Y → Y.cell? ⟨sb, 0, none⟩ = some (.slice a0 A.length k0) ∧ Y.cell? ⟨sb, 1, none⟩ = some (.slice a1 B.length k1)) := fun Y h => by
    have hs' := (h.block sb hsb).trans hs
    exact ⟨by rw [cell_of_row _ _ _ _ _ _ hs']; rfl, by rw [cell_of_row _ _ _ _ _ _ hs']; rfl⟩
  obtain ⟨na, hna⟩ : ∃ na, A.length = na := ⟨_, rfl⟩
  obtain ⟨nb, hnb⟩ : ∃ nb, B.length = nb := ⟨_, rfl⟩
  have HN : Hid (A.length = na ∧ B.length = nb ∧ na ≤ 1000 ∧ nb ≤ 1000) := ⟨hna, hnb, by omega, by omega⟩
  simp only [hna, hnb] at HA HB HC hA hB hs
  have e0 := (HC.out w (Below.refl _ _)).1
  have e1 := (HC.out w (Below.refl _ _)).2
  have b0 : (na : Int) ≤ 1000 := by omega
  have b1 : (nb : Int) ≤ 1000 := by omega
  have b2 : (0 : Int) ≤ (na : Int) := by omega
  have b3 : (0 : Int) ≤ (nb : Int) := by omega
  clear h0 h1 hs hna hnb hA hB
  go_enter Tryz.func53, Tryz.ntmps53
  go_wp2
  go_loopw [3, 11] (fun v3 v11 wr => wr = w ∧ ((v11 = .int .i64 0 ∧ v3 = .int .i64 0) ∨ (v11 = .int .i64 1 ∧ v3 = .int .i64 na) ∨ (v11 = .int .i64 2 ∧ v3 = .int .i64 (na + nb : Nat)))) (fun _ v _ => 2 - (intOf v).toNat)
  case atStart => exact ⟨rfl, .inl ⟨rfl, rfl⟩⟩
  case round =>
    obtain ⟨hw, h⟩ := hrel
    rw [hw]
    clear hw
    rcases h with ⟨rfl, rfl⟩ | ⟨rfl, rfl⟩ | ⟨rfl, rfl⟩
    · have c1 : ¬ (0 : Int) + (na : Int) < 0 := by omega
      have c2 : ¬ (na : Int) < 0 := by omega
      go_wp2
      exact ⟨⟨trivial, .inr (.inl ⟨rfl, rfl⟩)⟩, by decide⟩
    · have c2 : ¬ (na : Int) + (nb : Int) < 0 := by omega
      go_wp2
      exact ⟨⟨trivial, .inr (.inr ⟨rfl, rfl⟩)⟩, by decide⟩
    · have CG := grow_nil (na + nb) (by omega) w
      have c3 : ((na + nb : Nat) : Int) = (na : Int) + (nb : Int) := by omega
      rw [c3] at CG ⊢
      go_upto_region 10 with (go_at_call 69; refine CG.mono ?_; rintro e w2 ⟨x, rfl, hx, hb⟩; obtain ⟨ax, cx, rfl⟩ := own_slice' hx; have H2 : Hid (w2.ownsRow w.heap.size 3 1 (.slice ax 0 cx) 0 [] ∧ Below w.heap.size w w2) := ⟨hx, hb⟩; clear hx hb CG)
      clear e0 e1
      go_wp2
      go_loopw [6, 27] (fun v6 v27 wq => Below w.heap.size w wq ∧ ((v27 = .int .i64 0 ∧ wq.ownsRow w.heap.size 3 1 v6 0 []) ∨ (v27 = .int .i64 1 ∧ wq.ownsRow w.heap.size 3 1 v6 na (A.map (Value.int .i64))) ∨ (v27 = .int .i64 2 ∧ wq.ownsRow w.heap.size 3 1 v6 (na + nb) ((A ++ B).map (Value.int .i64))))) (fun _ v _ => 2 - (intOf v).toNat)
      case atStart => exact ⟨H2.out.2, .inl ⟨rfl, H2.out.1⟩⟩
      case round =>
        obtain ⟨hB, hh⟩ := hrel
        have k0 := (HC.out wr hB).1
        have k1 := (HC.out wr hB).2
        have hws : w.heap.size ≤ wr.heap.size := hB.size
        have HBW : Hid (Below w.heap.size w wr) := hB
        rcases hh with ⟨rfl, ho⟩ | ⟨rfl, ho⟩ | ⟨rfl, ho⟩
        · obtain ⟨a6, c6, rfl⟩ := own_slice' ho
          have HAP : Hid _ := own_appN ho (HA.out wr hB) (by have := HN.out; omega) hws
          have HO : Hid (wr.ownsRow w.heap.size 3 1 (.slice a6 0 c6) 0 []) := ho
          clear hB ho
          go_wp2_with (at_builtin; go_loud (refine wpList_app _ rfl (.tmp 31) (.tmp 32) 22 22 rfl _ _ rfl rfl HAP.out ?_; rintro v' w' ⟨h1, h2, -⟩; obtain ⟨an, cn, rfl⟩ := own_slice' h1; have H7 : Hid (w'.ownsRow w.heap.size 3 1 (.slice an (0 + A.length) cn) (0 + A.length) ([] ++ A.map (Value.int .i64)) ∧ Below w.heap.size w w') := ⟨h1, HBW.out.grown h2 HBW.out.size (fun k hk => (HO.out.lt k hk).1)⟩; clear h1 h2))
          refine ⟨⟨H7.out.2, .inr (.inl ⟨rfl, ?_⟩)⟩, by decide⟩
          have := H7.out.1
          rw [Nat.zero_add, List.nil_append, HN.out.1] at this
          rw [HN.out.1]
          exact this
        · obtain ⟨a6, c6, rfl⟩ := own_slice' ho
          have HAP : Hid _ := own_appN ho (HB.out wr hB) (by have := HN.out; omega) hws
          have HO : Hid (wr.ownsRow w.heap.size 3 1 (.slice a6 na c6) na (A.map (Value.int .i64))) := ho
          clear hB ho
          go_wp2_with (at_builtin; go_loud (refine wpList_app _ rfl (.tmp 31) (.tmp 32) 22 22 rfl _ _ rfl rfl HAP.out ?_; rintro v' w' ⟨h1, h2, -⟩; obtain ⟨an, cn, rfl⟩ := own_slice' h1; have H7 : Hid (w'.ownsRow w.heap.size 3 1 (.slice an (na + B.length) cn) (na + B.length) (A.map (Value.int .i64) ++ B.map (Value.int .i64)) ∧ Below w.heap.size w w') := ⟨h1, HBW.out.grown h2 HBW.out.size (fun k hk => (HO.out.lt k hk).1)⟩; clear h1 h2))
          refine ⟨⟨H7.out.2, .inr (.inr ⟨rfl, ?_⟩)⟩, by decide⟩
          have := H7.out.1
          rw [HN.out.2.1] at this
          rw [HN.out.2.1, List.map_append]
          exact this
        · obtain ⟨a6, c6, rfl⟩ := own_slice' ho
          have HO : Hid (wr.ownsRow w.heap.size 3 1 (.slice a6 (na + nb) c6) (na + nb) ((A ++ B).map (Value.int .i64))) := ho
          clear hB ho
          go_wp2
          go_ret
          exact ⟨_, rfl, by rw [List.length_append, HN.out.1, HN.out.2.1]; exact HO.out, HBW.out⟩
theorem sort_own (base : Nat) (v : Value) (C : List Int) (w : World) (h : w.ownsRow base 3 1 v C.length (C.map (Value.int .i64))) (hC : C.length ≤ 1000) :
    Calls Tryz.prog 54 #[v] w fun e w' => e = .returned (.tuple #[]) ∧ w'.ownsRow base 3 1 v C.length ((C.mergeSort fun x y => decide (x ≤ y)).map (Value.int .i64)) ∧ w.grownBy w' v.ownBlock := by
  rcases id h.2 with ⟨rfl, h0⟩ | ⟨g, cap, cur, rfl, h1, h2, h3, h4, h5, h6⟩
  · obtain rfl : C = [] := List.length_eq_zero_iff.1 h0
    refine (Tryz.slices_Sort_int_none none 0 w).mono ?_
    rintro e w' ⟨rfl, rfl⟩
    exact ⟨rfl, by simpa using h, World.grownBy.refl _ _⟩
  · refine (Tryz.slices_Sort_int g 0 cap C w (Go.holds_of_blockI h2 (by rw [Nat.mul_one] at h6; exact h6)) (Array.getElem?_eq_some_iff.1 h2).1 (by omega)).mono ?_
    rintro e w' ⟨rfl, n, os, rfl⟩
    exact ⟨rfl, Go.ownsRow_sortedI (by simp) h1 h2 h3 h4 h5, Go.grownBy_sortedI _⟩
end Go.Proofs.YtpfidohkohldaaaGreatDoor
