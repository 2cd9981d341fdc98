import Derived.Test.YtgfamcadgahiiabRows
import Derived.Test.YtgfamcadgahiiabPin
import Derived.Test.YtgfamcadgahiiabPrmB
import Derived.Laws.Externs
namespace Go.Proofs.Ytgfamcadgahiiab
set_option linter.unusedSimpArgs false
open Go.ChangeShapes Go.WideShapes Go.ChangeAt Go.RowKit Go.Pin Go.Prm
theorem setRow_setCell {w : World} {g : Nat} {old : Array Value} {T : TypeId} (hg : w.heap[g]? = some (.cells old T (0, 0))) (cs : Array Value) (i : Nat) (v : Value) :
    (w.setRow g cs).setCell ⟨g, i, none⟩ v = w.setRow g (cs.setIfInBounds i v) := by
  rw [setCell_eq_setRow (w.setRow g cs) g i cs T (0, 0) v (setRow_heap w g old cs T (0, 0) hg)]
  simp only [World.setRow]
  congr 1
  apply Array.ext_getElem?
  intro k
  rw [Array.getElem?_modify, Array.getElem?_modify, Array.getElem?_modify]
  by_cases h : g = k
  · subst h
    simp [hg]
  · simp [h]
theorem setRow_self {w : World} {g : Nat} {cs : Array Value} {T : TypeId} {fr : Nat × Nat} (hg : w.heap[g]? = some (.cells cs T fr)) : w.setRow g cs = w := by
  have e : w.heap.modify g (fun | .cells _ elem frozen => .cells cs elem frozen | o => o) = w.heap := by
    apply Array.ext_getElem?
    intro k
    rw [Array.getElem?_modify]
    by_cases h : g = k
    · subst h
      simp [hg]
    · simp [h]
  exact congrArg (fun h => { w with heap := h }) e
theorem mask26 (x : Int) (h0 : 0 ≤ x) (h1 : x < 18446744073709551616) : bits .and .u64 x 67108863 = x % 67108864 := by
  obtain ⟨n, rfl⟩ := Int.eq_ofNat_of_zero_le h0
  have := u64_and_nat n 67108863 (by omega) (by decide)
  rw [show (67108863 : Int) = ((67108863 : Nat) : Int) from rfl, this, show (67108863 : Nat) = 2 ^ 26 - 1 by decide, Nat.and_two_pow_sub_one_eq_mod]
  rfl
theorem ret_int2 {k j : IntKind} {a b c d : Int} (h : a = b) (g : c = d) : Ending.returned (.tuple #[.int k a, .int j c]) = .returned (.tuple #[.int k b, .int j d]) := by rw [h, g]
theorem set_mid (a b : List Int) (x y : Int) : (a ++ x :: b).set a.length y = a ++ y :: b := by simp
theorem get_mid (a b : List Int) (x : Int) : (a ++ x :: b)[a.length]?.getD 0 = x := by simp
set_option maxHeartbeats 1000000 in
theorem carry_any (g : Nat) (T : TypeId) (l : List Int) (h5 : l.length = 5) (hb : ∀ x ∈ l, 0 ≤ x ∧ x < 9223372036854775808) (w : World) (hg : w.heap[g]? = some (.cells (VI .u64 l) T (0, 0))) :
    Calls Try.prog 42 #[.pointer (some ⟨g, 0, none⟩)] w fun e w' => e = .returned (.int .u64 (co 0 l)) ∧ w' = w.setRow g (VI .u64 (cy 0 l)) := by
  have HG : Hid (w.heap[g]? = some (.cells (VI .u64 l) T (0, 0))) := hg
  have HB : Hid (∀ x ∈ l, 0 ≤ x ∧ x < 9223372036854775808) := hb
  clear hg hb
  go_enter Try.func42, Try.ntmps42
  go_wp2
  go_loopw [3, 6] (fun o i w' => ∃ (d r : List Int) (c : Int), i = .int .i64 (d.length : Nat) ∧ o = .int .u64 c ∧ 0 ≤ c ∧ c < 274877906944 ∧ d.length + r.length = 5 ∧ (∀ x ∈ r, 0 ≤ x ∧ x < 9223372036854775808) ∧ cy 0 l = d ++ cy c r ∧ co 0 l = co c r ∧ w' = w.setRow g (VI .u64 (d ++ r))) (fun _ i _ => 5 - (intOf i).toNat)
  case atStart =>
    exact ⟨[], l, 0, rfl, rfl, by decide, by decide, by simpa using h5, HB.out, rfl, rfl, (setRow_self HG.out).symm⟩
  case round =>
    obtain ⟨d, r, c, rfl, rfl, c0, c1, hl, hr, hcy, hco, hw⟩ := hrel
    cases r with
    | cons x r =>
      have hx := hr x (by simp)
      have hcell : wr.cell? ⟨g, d.length, none⟩ = some (.int .u64 x) := by
        rw [hw, cell_of_row _ _ _ _ _ _ (setRow_heap w g _ _ T _ HG.out), VI_at _ _ _ (by simp)]; simp
      have hfr : wr.frozen? ⟨g, d.length, none⟩ = false := by rw [hw]; exact frozen_of_row _ _ _ _ _ (setRow_heap w g _ _ T _ HG.out)
      have hset : Hid (∀ y, wr.setCell ⟨g, d.length, none⟩ (.int .u64 y) = w.setRow g (VI .u64 (d ++ y :: r))) := fun y => by
        rw [hw, setRow_setCell HG.out, VI_set, set_mid]
      obtain ⟨x0, x1⟩ := hx
      have hlt : d.length < 5 := by simp at hl; omega
      have HR : Hid (∀ y ∈ x :: r, 0 ≤ y ∧ y < 9223372036854775808) := hr
      have H1 : Hid (cy 0 l = d ++ cy c (x :: r)) := hcy
      have H2 : Hid (co 0 l = co c (x :: r)) := hco
      have HL : Hid (d.length + (x :: r).length = 5) := hl
      have hm := mask26 (x + c) (by omega) (by omega)
      clear hr hcy hco hl hw HB HG h5
      go_wp2
      go_roundw
      case rel =>
        exact ⟨d ++ [(x + c) % 67108864], r, (x + c) / 67108864, by simp, rfl, by omega, by omega, by have := HL.out; simp at this ⊢; omega, fun y hy => HR.out y (by simp [hy]), by rw [H1.out]; simp [cy], H2.out, by rw [hset.out]; simp⟩
      case measure => simp [intOf]; omega
    | nil =>
      have hlt : d.length = 5 := by simpa using hl
      simp only [hlt]
      have hw2 : wr = w.setRow g (VI .u64 (cy 0 l)) := by rw [hw, show cy 0 l = d by rw [hcy]; exact List.append_nil d, List.append_nil]
      have HW : Hid (wr = w.setRow g (VI .u64 (cy 0 l))) := hw2
      have H2 : Hid (c = co 0 l) := hco.symm
      clear hr hcy hco hl hw hw2 HB HG h5
      go_wp2
      go_ret
      exact ⟨ret_int H2.out, HW.out⟩
/-- block g alone has turned, into the limbs l -/
structure Up (g : Nat) (T : TypeId) (l : List Int) (w w' : World) : Prop where
  but : But (fun k => k = g) w w'
  row : w'.heap[g]? = some (.cells (VI .u64 l) T (0, 0))
theorem Up.setRow {g : Nat} {T : TypeId} {w : World} {old : Array Value} (hg : w.heap[g]? = some (.cells old T (0, 0))) (l : List Int) : Up g T l w (w.setRow g (VI .u64 l)) :=
  ⟨⟨rfl, rfl, rfl, size_setRow _ _ _, fun k hk => setRow_other w g k _ hk⟩, setRow_heap w g _ _ T _ hg⟩
theorem Up.drew {g : Nat} {T : TypeId} {l : List Int} {w w' : World} (h : Up g T l w w') : Up g T l w w'.drew := ⟨h.but.drew, h.row⟩
theorem But.trans {S : Nat → Prop} {a b c : World} (h : But S a b) (k : But S b c) : But S a c :=
  ⟨k.os.trans h.os, k.tape.trans h.tape, k.output.trans h.output, k.size.trans h.size, fun i hi => (k.block i hi).trans (h.block i hi)⟩
theorem Up.set {g : Nat} {T : TypeId} {l : List Int} {w w' : World} (h : Up g T l w w') (i : Nat) (v : Int) : Up g T (l.set i v) w (w'.setCell ⟨g, i, none⟩ (.int .u64 v)) :=
  ⟨h.but.setCell rfl _, by rw [heap_setCell_same w' _ _ _ _ _ h.row, VI_set]⟩
theorem Up.cell {g : Nat} {T : TypeId} {l : List Int} {w w' : World} (h : Up g T l w w') {i : Nat} (hi : i < l.length) : w'.cell? ⟨g, i, none⟩ = some (.int .u64 (l.getD i 0)) := by
  rw [cell_of_row w' _ _ _ _ _ h.row, VI_at _ _ _ hi]
theorem Up.frozen {g : Nat} {T : TypeId} {l : List Int} {w w' : World} (h : Up g T l w w') (i : Nat) : w'.frozen? ⟨g, i, none⟩ = false := frozen_of_row w' _ _ _ _ h.row
theorem Up.trans {g : Nat} {T S : TypeId} {l m : List Int} {a b c : World} (h : Up g T l a b) (k : Up g S m b c) : Up g S m a c := ⟨But.trans h.but k.but, k.row⟩
theorem Up.refl {g : Nat} {T : TypeId} {l : List Int} {w : World} (h : w.heap[g]? = some (.cells (VI .u64 l) T (0, 0))) : Up g T l w w := ⟨But.refl _ _, h⟩
set_option maxRecDepth 100000 in
set_option maxHeartbeats 2000000 in
theorem settle_any (g : Nat) (T : TypeId) (l : List Int) (h5 : l.length = 5) (hb : ∀ x ∈ l, 0 ≤ x ∧ x < 1152921504606846976) (w : World) (hg : w.heap[g]? = some (.cells (VI .u64 l) T (0, 0))) :
    Calls Try.prog 40 #[.pointer (some ⟨g, 0, none⟩)] w fun e w' => e = .returned (.tuple #[]) ∧ Up g T (stl l) w w' := by
  have HG : Hid (w.heap[g]? = some (.cells (VI .u64 l) T (0, 0))) := hg
  have HB : Hid (∀ x ∈ l, 0 ≤ x ∧ x < 9223372036854775808) := fun x hx => by have := hb x hx; omega
  obtain ⟨_, _, _, _, c0, c1⟩ := stl_lim l h5 (fun x hx => by have := hb x hx; omega)
  have hU := Up.setRow hg (cy 0 l)
  have hcell := hU.cell (i := 0) (by rw [cy_len]; omega)
  have hcell1 := hU.cell (i := 1) (by rw [cy_len]; omega)
  have hfr := hU.frozen 0
  have hfr1 := hU.frozen 1
  have hmem : ∀ i, i < 5 → 0 ≤ (cy 0 l).getD i 0 ∧ (cy 0 l).getD i 0 < 67108864 := fun i hi => cy_lt l 0 _ (by
    have : i < (cy 0 l).length := by rw [cy_len]; omega
    rw [List.getD_eq_getElem?_getD, List.getElem?_eq_getElem this]; exact List.getElem_mem this)
  have hy := hmem 0 (by decide)
  have hz := hmem 1 (by decide)
  have hlast : stl l = (((cy 0 l).set 0 ((cy 0 l).getD 0 0 + 5 * co 0 l)).set 1 ((cy 0 l).getD 1 0 + ((cy 0 l).getD 0 0 + 5 * co 0 l) / 67108864)).set 0 (((cy 0 l).getD 0 0 + 5 * co 0 l) % 67108864) := by
    obtain ⟨a, b, c, d, e, hc⟩ := five ((cy_len l 0).trans h5)
    rw [stl, hc]; rfl
  have HS : Hid (∀ W, Up g T (cy 0 l) w W → Up g T (stl l) w (((W.setCell ⟨g, 0, none⟩ (.int .u64 ((cy 0 l).getD 0 0 + 5 * co 0 l))).setCell ⟨g, 1, none⟩ (.int .u64 ((cy 0 l).getD 1 0 + ((cy 0 l).getD 0 0 + 5 * co 0 l) / 67108864))).setCell ⟨g, 0, none⟩ (.int .u64 (((cy 0 l).getD 0 0 + 5 * co 0 l) % 67108864))).drew.drew.drew) := fun W h => by
    rw [hlast]
    exact (((h.set 0 _).set 1 _).set 0 _).drew.drew.drew
  obtain ⟨W, hW⟩ : ∃ W, w.setRow g (VI .u64 (cy 0 l)) = W := ⟨_, rfl⟩
  rw [hW] at hU hcell hfr hcell1 hfr1
  have HU : Hid (Up g T (cy 0 l) w W) := hU
  obtain ⟨y0, y1⟩ := hy
  obtain ⟨z0, z1⟩ := hz
  clear hg hb hU hmem hlast
  generalize (cy 0 l).getD 0 0 = y at *
  generalize (cy 0 l).getD 1 0 = z at *
  go_enter Try.func40, Try.ntmps40
  go_wp2_with (go_at_call 42; refine (carry_any g T l h5 HB.out w HG.out).mono ?_; rintro e w' ⟨rfl, rfl⟩)
  generalize co 0 l = c at *
  have hm := mask26 (y + 5 * c) (by omega) (by omega)
  obtain ⟨u, hu⟩ : ∃ u, y + 5 * c = u := ⟨_, rfl⟩
  have hwu : IntKind.u64.wrap (5 * c) = 5 * c := by rw [IntKind.wrap_u64]; omega
  go_region
  have u0 : 0 ≤ u := by omega
  have u1 : u < 274877906944 := by omega
  rw [hu] at hm
  go_wp2
  go_region
  go_wp2
  go_region
  go_wp2
  go_end0
  refine ⟨rfl, ?_⟩
  rw [← hu]
  exact HS.out _ HU.out
end Go.Proofs.Ytgfamcadgahiiab
