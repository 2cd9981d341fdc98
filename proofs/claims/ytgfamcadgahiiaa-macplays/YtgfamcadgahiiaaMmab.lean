import Derived.Test.YtgfamcadgahiiaaRows
import Derived.Laws.Externs
import Derived.Maps.AppendAt
import Derived.Laws.LoneSync
import Derived.Test.YtgfamcadgahiiaaMmaa
namespace Go.Proofs.Ytgfamcadgahiiaa
set_option linter.unusedSimpArgs false
open Go.ChangeShapes Go.WideShapes Go.ChangeAt Go.RowKit Go.Pin Go.Prm
theorem setRow_setCell {w : World} {g : Nat} {old : Array Value} {T : TypeId} (hg : w.heap[g]? = some (.cells old T (0, 0))) (cs : Array Value) (i : Nat) (v : Value) :
    (w.setRow g cs).setCell ⟨g, i, none⟩ v = w.setRow g (cs.setIfInBounds i v) := by
  rw [setCell_eq_setRow (w.setRow g cs) g i cs T (0, 0) v (setRow_heap w g old cs T (0, 0) hg)]
  simp only [World.setRow]
  congr 1
  apply Array.ext_getElem?
  intro k
  rw [Array.getElem?_modify, Array.getElem?_modify, Array.getElem?_modify]
  by_cases h : g = k
  · subst h
    simp [hg]
  · simp [h]
theorem setRow_self {w : World} {g : Nat} {cs : Array Value} {T : TypeId} {fr : Nat × Nat} (hg : w.heap[g]? = some (.cells cs T fr)) : w.setRow g cs = w := by
  have e : w.heap.modify g (fun | .cells _ elem frozen => .cells cs elem frozen | o => o) = w.heap := by
    apply Array.ext_getElem?
    intro k
    rw [Array.getElem?_modify]
    by_cases h : g = k
    · subst h
      simp [hg]
    · simp [h]
  exact congrArg (fun h => { w with heap := h }) e
theorem mask26 (x : Int) (h0 : 0 ≤ x) (h1 : x < 18446744073709551616) : bits .and .u64 x 67108863 = x % 67108864 := by
  obtain ⟨n, rfl⟩ := Int.eq_ofNat_of_zero_le h0
  have := u64_and_nat n 67108863 (by omega) (by decide)
  rw [show (67108863 : Int) = ((67108863 : Nat) : Int) from rfl, this, show (67108863 : Nat) = 2 ^ 26 - 1 by decide, Nat.and_two_pow_sub_one_eq_mod]
  rfl
theorem ret_int2 {k j : IntKind} {a b c d : Int} (h : a = b) (g : c = d) : Ending.returned (.tuple #[.int k a, .int j c]) = .returned (.tuple #[.int k b, .int j d]) := by rw [h, g]
theorem set_mid (a b : List Int) (x y : Int) : (a ++ x :: b).set a.length y = a ++ y :: b := by simp
theorem get_mid (a b : List Int) (x : Int) : (a ++ x :: b)[a.length]?.getD 0 = x := by simp
set_option maxHeartbeats 1000000 in
theorem carry_any (g : Nat) (T : TypeId) (l : List Int) (h5 : l.length = 5) (hb : ∀ x ∈ l, 0 ≤ x ∧ x < 9223372036854775808) (w : World) (hg : w.heap[g]? = some (.cells (VI .u64 l) T (0, 0))) :
    Calls Try.prog 69 #[.pointer (some ⟨g, 0, none⟩)] w fun e w' => e = .returned (.int .u64 (co 0 l)) ∧ w' = w.setRow g (VI .u64 (cy 0 l)) := by
  have HG : Hid (w.heap[g]? = some (.cells (VI .u64 l) T (0, 0))) := hg
  have HB : Hid (∀ x ∈ l, 0 ≤ x ∧ x < 9223372036854775808) := hb
  clear hg hb
  go_enter Try.func69, Try.ntmps69
  go_wp2
  go_loopw [3, 6] (fun o i w' => ∃ (d r : List Int) (c : Int), i = .int .i64 (d.length : Nat) ∧ o = .int .u64 c ∧ 0 ≤ c ∧ c < 274877906944 ∧ d.length + r.length = 5 ∧ (∀ x ∈ r, 0 ≤ x ∧ x < 9223372036854775808) ∧ cy 0 l = d ++ cy c r ∧ co 0 l = co c r ∧ w' = w.setRow g (VI .u64 (d ++ r))) (fun _ i _ => 5 - (intOf i).toNat)
  case atStart =>
    exact ⟨[], l, 0, rfl, rfl, by decide, by decide, by simpa using h5, HB.out, rfl, rfl, (setRow_self HG.out).symm⟩
  case round =>
    obtain ⟨d, r, c, rfl, rfl, c0, c1, hl, hr, hcy, hco, hw⟩ := hrel
    cases r with
    | cons x r =>
      have hx := hr x (by simp)
      have hcell : wr.cell? ⟨g, d.length, none⟩ = some (.int .u64 x) := by
        rw [hw, cell_of_row _ _ _ _ _ _ (setRow_heap w g _ _ T _ HG.out), VI_at _ _ _ (by simp)]; simp
      have hfr : wr.frozen? ⟨g, d.length, none⟩ = false := by rw [hw]; exact frozen_of_row _ _ _ _ _ (setRow_heap w g _ _ T _ HG.out)
      have hset : Hid (∀ y, wr.setCell ⟨g, d.length, none⟩ (.int .u64 y) = w.setRow g (VI .u64 (d ++ y :: r))) := fun y => by
        rw [hw, setRow_setCell HG.out, VI_set, set_mid]
      obtain ⟨x0, x1⟩ := hx
      have hlt : d.length < 5 := by simp at hl; omega
      have HR : Hid (∀ y ∈ x :: r, 0 ≤ y ∧ y < 9223372036854775808) := hr
      have H1 : Hid (cy 0 l = d ++ cy c (x :: r)) := hcy
      have H2 : Hid (co 0 l = co c (x :: r)) := hco
      have HL : Hid (d.length + (x :: r).length = 5) := hl
      have hm := mask26 (x + c) (by omega) (by omega)
      clear hr hcy hco hl hw HB HG h5
      go_wp2
      go_roundw
      case rel =>
        exact ⟨d ++ [(x + c) % 67108864], r, (x + c) / 67108864, by simp, rfl, by omega, by omega, by have := HL.out; simp at this ⊢; omega, fun y hy => HR.out y (by simp [hy]), by rw [H1.out]; simp [cy], H2.out, by rw [hset.out]; simp⟩
      case measure => simp [intOf]; omega
    | nil =>
      have hlt : d.length = 5 := by simpa using hl
      simp only [hlt]
      have hw2 : wr = w.setRow g (VI .u64 (cy 0 l)) := by rw [hw, show cy 0 l = d by rw [hcy]; exact List.append_nil d, List.append_nil]
      have HW : Hid (wr = w.setRow g (VI .u64 (cy 0 l))) := hw2
      have H2 : Hid (c = co 0 l) := hco.symm
      clear hr hcy hco hl hw hw2 HB HG h5
      go_wp2
      go_ret
      exact ⟨ret_int H2.out, HW.out⟩
/-- block g alone has turned, into the limbs l -/
structure Up (g : Nat) (T : TypeId) (l : List Int) (w w' : World) : Prop where
  but : But (fun k => k = g) w w'
  row : w'.heap[g]? = some (.cells (VI .u64 l) T (0, 0))
theorem Up.setRow {g : Nat} {T : TypeId} {w : World} {old : Array Value} (hg : w.heap[g]? = some (.cells old T (0, 0))) (l : List Int) : Up g T l w (w.setRow g (VI .u64 l)) :=
  ⟨⟨rfl, rfl, rfl, size_setRow _ _ _, fun k hk => setRow_other w g k _ hk⟩, setRow_heap w g _ _ T _ hg⟩
theorem Up.drew {g : Nat} {T : TypeId} {l : List Int} {w w' : World} (h : Up g T l w w') : Up g T l w w'.drew := ⟨h.but.drew, h.row⟩
theorem But.trans {S : Nat → Prop} {a b c : World} (h : But S a b) (k : But S b c) : But S a c :=
  ⟨k.os.trans h.os, k.tape.trans h.tape, k.output.trans h.output, k.size.trans h.size, fun i hi => (k.block i hi).trans (h.block i hi)⟩
theorem Up.set {g : Nat} {T : TypeId} {l : List Int} {w w' : World} (h : Up g T l w w') (i : Nat) (v : Int) : Up g T (l.set i v) w (w'.setCell ⟨g, i, none⟩ (.int .u64 v)) :=
  ⟨h.but.setCell rfl _, by rw [heap_setCell_same w' _ _ _ _ _ h.row, VI_set]⟩
theorem Up.cell {g : Nat} {T : TypeId} {l : List Int} {w w' : World} (h : Up g T l w w') {i : Nat} (hi : i < l.length) : w'.cell? ⟨g, i, none⟩ = some (.int .u64 (l.getD i 0)) := by
  rw [cell_of_row w' _ _ _ _ _ h.row, VI_at _ _ _ hi]
theorem Up.frozen {g : Nat} {T : TypeId} {l : List Int} {w w' : World} (h : Up g T l w w') (i : Nat) : w'.frozen? ⟨g, i, none⟩ = false := frozen_of_row w' _ _ _ _ h.row
theorem Up.trans {g : Nat} {T S : TypeId} {l m : List Int} {a b c : World} (h : Up g T l a b) (k : Up g S m b c) : Up g S m a c := ⟨But.trans h.but k.but, k.row⟩
theorem Up.refl {g : Nat} {T : TypeId} {l : List Int} {w : World} (h : w.heap[g]? = some (.cells (VI .u64 l) T (0, 0))) : Up g T l w w := ⟨But.refl _ _, h⟩
set_option maxRecDepth 100000 in
set_option maxHeartbeats 2000000 in
theorem settle_any (g : Nat) (T : TypeId) (l : List Int) (h5 : l.length = 5) (hb : ∀ x ∈ l, 0 ≤ x ∧ x < 1152921504606846976) (w : World) (hg : w.heap[g]? = some (.cells (VI .u64 l) T (0, 0))) :
    Calls Try.prog 62 #[.pointer (some ⟨g, 0, none⟩)] w fun e w' => e = .returned (.tuple #[]) ∧ Up g T (stl l) w w' := by
  have HG : Hid (w.heap[g]? = some (.cells (VI .u64 l) T (0, 0))) := hg
  have HB : Hid (∀ x ∈ l, 0 ≤ x ∧ x < 9223372036854775808) := fun x hx => by have := hb x hx; omega
  obtain ⟨_, _, _, _, c0, c1⟩ := stl_lim l h5 (fun x hx => by have := hb x hx; omega)
  have hU := Up.setRow hg (cy 0 l)
  have hcell := hU.cell (i := 0) (by rw [cy_len]; omega)
  have hcell1 := hU.cell (i := 1) (by rw [cy_len]; omega)
  have hfr := hU.frozen 0
  have hfr1 := hU.frozen 1
  have hmem : ∀ i, i < 5 → 0 ≤ (cy 0 l).getD i 0 ∧ (cy 0 l).getD i 0 < 67108864 := fun i hi => cy_lt l 0 _ (by
    have : i < (cy 0 l).length := by rw [cy_len]; omega
    rw [List.getD_eq_getElem?_getD, List.getElem?_eq_getElem this]; exact List.getElem_mem this)
  have hy := hmem 0 (by decide)
  have hz := hmem 1 (by decide)
  have hlast : stl l = (((cy 0 l).set 0 ((cy 0 l).getD 0 0 + 5 * co 0 l)).set 1 ((cy 0 l).getD 1 0 + ((cy 0 l).getD 0 0 + 5 * co 0 l) / 67108864)).set 0 (((cy 0 l).getD 0 0 + 5 * co 0 l) % 67108864) := by
    obtain ⟨a, b, c, d, e, hc⟩ := five ((cy_len l 0).trans h5)
    rw [stl, hc]; rfl
  have HS : Hid (∀ W, Up g T (cy 0 l) w W → Up g T (stl l) w (((W.setCell ⟨g, 0, none⟩ (.int .u64 ((cy 0 l).getD 0 0 + 5 * co 0 l))).setCell ⟨g, 1, none⟩ (.int .u64 ((cy 0 l).getD 1 0 + ((cy 0 l).getD 0 0 + 5 * co 0 l) / 67108864))).setCell ⟨g, 0, none⟩ (.int .u64 (((cy 0 l).getD 0 0 + 5 * co 0 l) % 67108864))).drew.drew.drew) := fun W h => by
    rw [hlast]
    exact (((h.set 0 _).set 1 _).set 0 _).drew.drew.drew
  obtain ⟨W, hW⟩ : ∃ W, w.setRow g (VI .u64 (cy 0 l)) = W := ⟨_, rfl⟩
  rw [hW] at hU hcell hfr hcell1 hfr1
  have HU : Hid (Up g T (cy 0 l) w W) := hU
  obtain ⟨y0, y1⟩ := hy
  obtain ⟨z0, z1⟩ := hz
  clear hg hb hU hmem hlast
  generalize (cy 0 l).getD 0 0 = y at *
  generalize (cy 0 l).getD 1 0 = z at *
  go_enter Try.func62, Try.ntmps62
  go_wp2_with (go_at_call 69; refine (carry_any g T l h5 HB.out w HG.out).mono ?_; rintro e w' ⟨rfl, rfl⟩)
  generalize co 0 l = c at *
  have hm := mask26 (y + 5 * c) (by omega) (by omega)
  obtain ⟨u, hu⟩ : ∃ u, y + 5 * c = u := ⟨_, rfl⟩
  have hwu : IntKind.u64.wrap (5 * c) = 5 * c := by rw [IntKind.wrap_u64]; omega
  go_region
  have u0 : 0 ≤ u := by omega
  have u1 : u < 274877906944 := by omega
  rw [hu] at hm
  go_wp2
  go_region
  go_wp2
  go_region
  go_wp2
  go_end0
  refine ⟨rfl, ?_⟩
  rw [← hu]
  exact HS.out _ HU.out
end Go.Proofs.Ytgfamcadgahiiaa
namespace Go.Proofs.Ytgfamcadgahiiaa
set_option linter.unusedSimpArgs false
open Go.ChangeShapes Go.WideShapes Go.ChangeAt Go.RowKit Go.Pin
/-- the cells of a list of events -/
def evC (l : List (Int × Int)) : List Value := l.flatMap fun e => [.int .i64 e.1, .int .i64 e.2]
theorem evC_len (l : List (Int × Int)) : (evC l).length = l.length * 2 := by
  induction l with
  | nil => rfl
  | cons e l ih => simp only [evC, List.flatMap_cons, List.length_append] at ih ⊢; rw [ih]; simp; omega
theorem evC_at (l : List (Int × Int)) (i : Nat) (e : Int × Int) (h : l[i]? = some e) : (evC l)[i * 2]? = some (.int .i64 e.1) ∧ (evC l)[i * 2 + 1]? = some (.int .i64 e.2) := by
  induction l generalizing i with
  | nil => simp at h
  | cons x l ih =>
    cases i with
    | zero => simp at h; subst h; exact ⟨rfl, rfl⟩
    | succ i =>
      have := ih i (by simpa using h)
      rw [show (i + 1) * 2 = i * 2 + 1 + 1 by omega]
      exact this
theorem drewN_add (w : World) (n m : Nat) : (w.drewN n).drewN m = w.drewN (n + m) := by
  simp [World.drewN, Nat.add_assoc]
/-- a slice of n elements of sz cells: what it holds -/
def Sl (w : World) (v : Value) (sz : Nat) (cs : List Value) (n : Nat) : Prop :=
  cs.length = n * sz ∧ ∃ a c, v = .slice a n c ∧ n ≤ c ∧ (n = 0 ∨ ∃ b o, a = some ⟨b, o, none⟩ ∧ ∀ j x, cs[j]? = some x → w.cell? ⟨b, o + j, none⟩ = some x)
theorem evC_drop (l : List (Int × Int)) (n : Nat) : evC (l.drop n) = (evC l).drop (n * 2) := by
  induction n generalizing l with
  | zero => simp
  | succ n ih =>
    cases l with
    | nil => simp [evC]
    | cons x l =>
      rw [List.drop_succ_cons, ih, show (n + 1) * 2 = n * 2 + 2 by omega]
      rfl
theorem evC_app (a b : List (Int × Int)) : evC (a ++ b) = evC a ++ evC b := by simp [evC]
theorem owns_below {w w' : World} {base : Nat} {e : TypeId} {size : Nat} {v : Value} {n : Nat} {xs : List Value} (h : w.ownsRow base e size v n xs) (hb : Below w.heap.size w w') : w'.ownsRow base e size v n xs :=
  h.kept (row := none) ⟨hb.os, hb.tape, hb.output, hb.size, fun k hk _ => hb.block k hk⟩ (by cases hv : v.ownBlock <;> simp)
theorem info37 : (Try.prog.info? 82).map (fun i => (i.zero, i.size, i.bytes)) = some (some (.agg #[.int .i64 0, .int .i64 0]), 2, 16) := by kernel_rfl
end Go.Proofs.Ytgfamcadgahiiaa
namespace Go.Proofs.Ytgfamcadgahiiaa
set_option linter.unusedSimpArgs false
open Go.ChangeShapes Go.WideShapes Go.ChangeAt Go.RowKit Go.Pin
/-- all that lay there but the blocks of S lies as it lay; more may have come -/
structure Grow (S : Nat → Prop) (w w' : World) : Prop where
  os : w'.os = w.os
  tape : w'.tape = w.tape
  output : w'.output = w.output
  size : w.heap.size ≤ w'.heap.size
  block : ∀ k, k < w.heap.size → ¬ S k → w'.heap[k]? = w.heap[k]?
theorem Grow.below {S : Nat → Prop} {w w' : World} (h : Grow S w w') {B : Nat} (hS : ∀ k, S k → B ≤ k) (hB : B ≤ w.heap.size) : Below B w w' :=
  ⟨h.os, h.tape, h.output, h.size, fun k hk => h.block k (by omega) (fun hs => by have := hS k hs; omega)⟩
theorem Grow.of_below {S : Nat → Prop} {w w' : World} (h : Below w.heap.size w w') : Grow S w w' := ⟨h.os, h.tape, h.output, h.size, fun k hk _ => h.block k hk⟩
theorem Grow.mono {S T : Nat → Prop} {w w' : World} (h : Grow S w w') (hT : ∀ k, S k → T k) : Grow T w w' := ⟨h.os, h.tape, h.output, h.size, fun k hk hn => h.block k hk (fun hs => hn (hT k hs))⟩
theorem Grow.trans {S : Nat → Prop} {a b c : World} (h : Grow S a b) (k : Grow S b c) : Grow S a c :=
  ⟨k.os.trans h.os, k.tape.trans h.tape, k.output.trans h.output, Nat.le_trans h.size k.size, fun i hi hn => (k.block i (Nat.lt_of_lt_of_le hi h.size) hn).trans (h.block i hi hn)⟩
theorem Grow.drewN {S : Nat → Prop} {a b : World} (h : Grow S a b) (n : Nat) : Grow S a (b.drewN n) := ⟨h.os, h.tape, h.output, h.size, h.block⟩
theorem Grow.owns {S : Nat → Prop} {w w' : World} (h : Grow S w w') {base : Nat} {e : TypeId} {size : Nat} {v : Value} {n : Nat} {xs : List Value} (ho : w.ownsRow base e size v n xs) (hn : ∀ k, v.ownBlock = some k → ¬ S k) : w'.ownsRow base e size v n xs := by
  refine ⟨ho.1, ?_⟩
  rcases ho.2 with h0 | ⟨g, cap, cur, rfl, hb, hg, hr⟩
  · exact .inl h0
  · exact .inr ⟨g, cap, cur, rfl, hb, (h.block g (Array.getElem?_eq_some_iff.1 hg).1 (hn g rfl)).trans hg, hr⟩
theorem owns_mono {w : World} {b b' : Nat} (hb : b' ≤ b) {e : TypeId} {size : Nat} {v : Value} {n : Nat} {xs : List Value} (ho : w.ownsRow b e size v n xs) : w.ownsRow b' e size v n xs := by
  refine ⟨ho.1, ?_⟩
  rcases ho.2 with h0 | ⟨g, cap, cur, rfl, hb', hr⟩
  · exact .inl h0
  · exact .inr ⟨g, cap, cur, rfl, Nat.le_trans hb hb', hr⟩
/-- a row of one's own is a slice that reads so -/
theorem sl_of_owns {w : World} {b : Nat} {e : TypeId} {size : Nat} {v : Value} {n : Nat} {xs : List Value} (ho : w.ownsRow b e size v n xs) : Sl w v size xs n := by
  refine ⟨ho.1, ?_⟩
  rcases ho.2 with ⟨rfl, rfl⟩ | ⟨g, cap, cur, rfl, hb, hg, hnc, hcm, hcs, ht⟩
  · exact ⟨none, 0, rfl, Nat.le_refl _, .inl rfl⟩
  · refine ⟨_, cap, rfl, hnc, .inr ⟨g, 0, rfl, fun j x hx => ?_⟩⟩
    have := ho.cells (g := g) rfl j x hx
    rwa [add_mid] at this
theorem sl_grow {S : Nat → Prop} {w w' : World} (h : Grow S w w') {v : Value} {sz n : Nat} {cs : List Value} (hs : Sl w v sz cs n) (hn : ∀ k, v.ownBlock = some k → ¬ S k) : Sl w' v sz cs n := by
  obtain ⟨h1, a, c, rfl, hc, hr⟩ := hs
  refine ⟨h1, a, c, rfl, hc, ?_⟩
  rcases hr with h0 | ⟨b, o, rfl, hcs⟩
  · exact .inl h0
  · refine .inr ⟨b, o, rfl, fun j x hx => ?_⟩
    have hx' := hcs j x hx
    have hlt := World.block_lt_of_cell? w _ hx'
    have hb := h.block b hlt (hn b rfl)
    rw [World.cell?_of_block (a := ⟨b, o + j, none⟩) hb]
    exact hx'
theorem sl_below {w w' : World} (h : Below w.heap.size w w') {v : Value} {sz n : Nat} {cs : List Value} (hs : Sl w v sz cs n) : Sl w' v sz cs n :=
  sl_grow (S := fun _ => False) (Grow.of_below h) hs (fun _ _ h => h)
/-- a Recorder at block R, its list vs, which has logged l -/
def Rec (B : Nat) (w : World) (R : Nat) (vs : Value) (l : List (Int × Int)) : Prop :=
  B ≤ R ∧ w.heap[R]? = some (.cells #[vs, .int .i64 (l.length : Int)] 78 (0, 0)) ∧ w.ownsRow B 82 2 vs l.length (evC l)
def Blk (R : Nat) (vs : Value) : Nat → Prop := fun k => k = R ∨ vs.ownBlock = some k
theorem Rec.ge {B : Nat} {w : World} {R : Nat} {vs : Value} {l : List (Int × Int)} (h : Rec B w R vs l) : ∀ k, Blk R vs k → B ≤ k := by
  rintro k (rfl | hk)
  · exact h.1
  · exact (h.2.2.lt k hk).1
theorem Rec.lt {B : Nat} {w : World} {R : Nat} {vs : Value} {l : List (Int × Int)} (h : Rec B w R vs l) : ∀ k, Blk R vs k → k < w.heap.size := by
  rintro k (rfl | hk)
  · exact (Array.getElem?_eq_some_iff.1 h.2.1).1
  · exact (h.2.2.lt k hk).2
theorem Rec.grow {B : Nat} {w w' : World} {R : Nat} {vs : Value} {l : List (Int × Int)} {S : Nat → Prop} (h : Rec B w R vs l) (hg : Grow S w w') (hn : ∀ k, Blk R vs k → ¬ S k) : Rec B w' R vs l :=
  ⟨h.1, (hg.block R (h.lt R (.inl rfl)) (hn R (.inl rfl))).trans h.2.1, hg.owns h.2.2 (fun k hk => hn k (.inr hk))⟩
theorem Rec.below {B : Nat} {w w' : World} {R : Nat} {vs : Value} {l : List (Int × Int)} (h : Rec B w R vs l) (hg : Below w.heap.size w w') : Rec B w' R vs l :=
  h.grow (S := fun _ => False) (Grow.of_below hg) (fun _ _ h => h)
theorem Rec.mono {B B' : Nat} {w : World} {R : Nat} {vs : Value} {l : List (Int × Int)} (h : Rec B w R vs l) (hb : B' ≤ B) : Rec B' w R vs l :=
  ⟨Nat.le_trans hb h.1, h.2.1, owns_mono hb h.2.2⟩
theorem Rec.cell0 {B : Nat} {w : World} {R : Nat} {vs : Value} {l : List (Int × Int)} (h : Rec B w R vs l) : w.cell? ⟨R, 0, none⟩ = some vs := by simp [World.cell?, h.2.1]
theorem Rec.cell1 {B : Nat} {w : World} {R : Nat} {vs : Value} {l : List (Int × Int)} (h : Rec B w R vs l) : w.cell? ⟨R, 1, none⟩ = some (.int .i64 l.length) := by simp [World.cell?, h.2.1]
theorem Rec.froz {B : Nat} {w : World} {R : Nat} {vs : Value} {l : List (Int × Int)} (h : Rec B w R vs l) (j : Nat) : w.frozen? ⟨R, j, none⟩ = false := by simp [World.frozen?, h.2.1]
theorem two_set0 {w : World} {R : Nat} {a b : Value} {t : TypeId} (h : w.heap[R]? = some (.cells #[a, b] t (0, 0))) (a' : Value) : (w.setCell ⟨R, 0, none⟩ a').heap[R]? = some (.cells #[a', b] t (0, 0)) := by
  obtain ⟨hlt, hk⟩ := Array.getElem?_eq_some_iff.1 h
  show (w.heap.modify R _)[R]? = _
  rw [Array.getElem?_eq_getElem (by rw [Array.size_modify]; exact hlt), Array.getElem_modify_self, hk]
  rfl
theorem two_set1 {w : World} {R : Nat} {a b : Value} {t : TypeId} (h : w.heap[R]? = some (.cells #[a, b] t (0, 0))) (b' : Value) : (w.setCell ⟨R, 1, none⟩ b').heap[R]? = some (.cells #[a, b'] t (0, 0)) := by
  obtain ⟨hlt, hk⟩ := Array.getElem?_eq_some_iff.1 h
  show (w.heap.modify R _)[R]? = _
  rw [Array.getElem?_eq_getElem (by rw [Array.size_modify]; exact hlt), Array.getElem_modify_self, hk]
  rfl
/-- sync/atomic -/
theorem load_i64 {a : Addr} {x : Int} {w : World} (hc : w.cell? a = some (.int .i64 x)) : (callFunc 50 #[.pointer (some a)]).run Try.prog w = .ok (.value (.int .i64 x)) w :=
  run_call_load Try.func50 (by kernel_rfl) (by kernel_rfl) (by kernel_rfl) .i64 (by kernel_rfl) hc
theorem add_i64 {a : Addr} {x y : Int} {w : World} (hc : w.cell? a = some (.int .i64 x)) (hz : w.frozen? a = false) (h0 : -9223372036854775808 ≤ x + y) (h1 : x + y < 9223372036854775808) :
    (callFunc 68 #[.pointer (some a), .int .i64 y]).run Try.prog w = .ok (.value (.int .i64 (x + y))) (w.setCell a (.int .i64 (x + y))) :=
  run_call_add Try.func68 (by kernel_rfl) (by kernel_rfl) (by kernel_rfl) .i64 (by kernel_rfl) hc hz (by
    have : IntKind.i64.wrap (x + y) = x + y := by rw [IntKind.wrap_i64]; omega
    simp [go_sem, this])
set_option maxRecDepth 100000 in
theorem aLoad_any (R : Nat) (j : Nat) (x : Int) (w : World) (hc : w.cell? ⟨R, j, none⟩ = some (.int .i64 x)) :
    Calls Try.prog 32 #[.pointer (some ⟨R, j, none⟩)] w fun e w' => e = .returned (.int .i64 x) ∧ w' = w := by
  have hd := load_i64 hc
  go_enter Try.func32, Try.ntmps32
  go_wp2
  go_ret
  exact ⟨rfl, rfl⟩
set_option maxRecDepth 100000 in
theorem aAdd_any (R : Nat) (j : Nat) (x y : Int) (w : World) (hc : w.cell? ⟨R, j, none⟩ = some (.int .i64 x)) (hz : w.frozen? ⟨R, j, none⟩ = false) (h0 : -9223372036854775808 ≤ x + y) (h1 : x + y < 9223372036854775808) :
    Calls Try.prog 60 #[.pointer (some ⟨R, j, none⟩), .int .i64 y] w fun e w' => e = .returned (.int .i64 (x + y)) ∧ w' = w.setCell ⟨R, j, none⟩ (.int .i64 (x + y)) := by
  have hd := add_i64 hc hz h0 h1
  go_enter Try.func60, Try.ntmps60
  go_wp2
  go_ret
  exact ⟨rfl, rfl⟩
set_option maxRecDepth 100000 in
set_option maxHeartbeats 1000000 in
theorem rlog_any (B R : Nat) (vs : Value) (l : List (Int × Int)) (k v : Int) (w : World) (h : Rec B w R vs l) (hl : l.length ≤ 1000000) :
    Calls Try.prog 52 #[.pointer (some ⟨R, 0, none⟩), .int .i64 k, .int .i64 v] w fun e w' => e = .returned (.tuple #[]) ∧ ∃ vs', Rec B w' R vs' (l ++ [(k, v)]) ∧ Grow (Blk R vs) w w' ∧ (vs'.ownBlock = vs.ownBlock ∨ ∃ g, vs'.ownBlock = some g ∧ w.heap.size ≤ g) := by
  obtain ⟨i0, hi, hz0, hz1, hz2⟩ := info_parts info37
  have HI : Hid _ := And.intro hi (And.intro hz0 (And.intro hz1 hz2))
  have HR : Hid (Rec B w R vs l) := h
  have hc0 := h.cell0
  have hf0 := h.froz 0
  clear hi hz0 hz1 hz2 h
  go_enter Try.func52, Try.ntmps52
  go_wp2_with (first | (at_builtin; refine wpList_append_own_at _ rfl _ _ 31 rfl B 82 i0 (.agg #[.int .i64 0, .int .i64 0]) 2 16 Try.underlying31 HI.out.1 HI.out.2.1 HI.out.2.2.1 HI.out.2.2.2 rfl (by decide) _ l.length (evC l) rfl (HR.out.2.2.alloc _) ⟨w.heap.size, 0, none⟩ 1 1 [.int .i64 k, .int .i64 v] rfl rfl ?_ ?_ ?_ ?_ ?_ ?_))
  · intro j u hj
    match j, hj with
    | 0, hj => simp at hj; subst hj; simp [Addr.add]
    | 1, hj => simp at hj; subst hj; simp [Addr.add]
  · intro u hu
    simp at hu
    rcases hu with rfl | rfl <;> rfl
  · unfold maxLen; omega
  · omega
  · have := HR.out.lt R (.inl rfl)
    have := HR.out.1
    simp; omega
  · intro v' w1 hown' hgrow hnn hat
    obtain ⟨g', cap', rfl⟩ : ∃ g cap, v' = .slice (some ⟨g, 0, none⟩) (l.length + 1) cap := by
      rcases hown'.2 with ⟨_, h0⟩ | ⟨g, cap, _, rfl, _⟩
      · omega
      · exact ⟨g, cap, rfl⟩
    have hlt := HR.out.lt R (.inl rfl)
    have hne : some R ≠ vs.ownBlock := by
      intro e
      rcases HR.out.2.2.2 with ⟨rfl, _⟩ | ⟨g, cap, cur, rfl, _, hg, _⟩
      · simp [Value.ownBlock] at e
      · obtain rfl : R = g := by simpa [Value.ownBlock] using e
        have := HR.out.2.1.symm.trans hg
        simp at this
    have hw1 : w1.heap[R]? = some (.cells #[vs, .int .i64 (l.length : Int)] 78 (0, 0)) := by
      rw [hgrow.block R (by simp; omega) hne, heap_alloc_any, if_neg (by omega)]
      exact HR.out.2.1
    have hne' : g' ≠ R := by
      rintro rfl
      rcases hown'.2 with ⟨h0, _⟩ | ⟨g, cap, cur, he, _, hg, _⟩
      · cases h0
      · cases he
        rw [hw1] at hg
        simp at hg
    have c0 : w1.cell? ⟨R, 0, none⟩ = some vs := by simp [World.cell?, hw1]
    have f0 : w1.frozen? ⟨R, 0, none⟩ = false := by simp [World.frozen?, hw1]
    have hw2 := two_set0 hw1 (.slice (some ⟨g', 0, none⟩) (l.length + 1) cap')
    have c1 : (w1.setCell ⟨R, 0, none⟩ (.slice (some ⟨g', 0, none⟩) (l.length + 1) cap')).cell? ⟨R, 1, none⟩ = some (.int .i64 l.length) := by simp [World.cell?, hw2]
    have f1 : (w1.setCell ⟨R, 0, none⟩ (.slice (some ⟨g', 0, none⟩) (l.length + 1) cap')).frozen? ⟨R, 1, none⟩ = false := by simp [World.frozen?, hw2]
    have hw3 := two_set1 hw2 (.int .i64 (l.length + 1))
    have RR : Rec B ((w1.setCell ⟨R, 0, none⟩ (.slice (some ⟨g', 0, none⟩) (l.length + 1) cap')).setCell ⟨R, 1, none⟩ (.int .i64 (l.length + 1))) R (.slice (some ⟨g', 0, none⟩) (l.length + 1) cap') (l ++ [(k, v)]) := by
      refine ⟨HR.out.1, by rw [hw3, List.length_append]; rfl, ?_⟩
      rw [List.length_append, evC_app]
      refine ⟨hown'.1, ?_⟩
      rcases hown'.2 with ⟨h0, _⟩ | ⟨g, cap, cur, he, h2, hg, hr⟩
      · cases h0
      · cases he
        refine .inr ⟨g', cap', cur, rfl, h2, ?_, hr⟩
        rw [heap_setCell_other _ _ _ _ (by exact hne'), heap_setCell_other _ _ _ _ (by exact hne')]
        exact hg
    have GG : Grow (Blk R vs) w ((w1.setCell ⟨R, 0, none⟩ (.slice (some ⟨g', 0, none⟩) (l.length + 1) cap')).setCell ⟨R, 1, none⟩ (.int .i64 (l.length + 1))) := by
      refine ⟨hgrow.os, hgrow.tape, hgrow.output, ?_, ?_⟩
      · have := hgrow.size
        simp [World.setCell] at this ⊢
        omega
      · intro k hk hS
        rw [heap_setCell_other _ _ _ _ (by exact fun e => hS (.inl e)), heap_setCell_other _ _ _ _ (by exact fun e => hS (.inl e)), hgrow.block k (by simp; omega) (fun e => hS (.inr e.symm)), heap_alloc_any, if_neg (by omega)]
    have AT : (Value.slice (some ⟨g', 0, none⟩) (l.length + 1) cap').ownBlock = vs.ownBlock ∨ ∃ g, (Value.slice (some ⟨g', 0, none⟩) (l.length + 1) cap').ownBlock = some g ∧ w.heap.size ≤ g := by
      rcases hat with h | h
      · exact .inl h
      · exact .inr ⟨_, h, by simp⟩
    have HRR : Hid _ := RR
    have HGG : Hid _ := GG
    have HAT : Hid _ := AT
    have HC : Hid (∀ _ : Unit, _) := fun _ => aAdd_any R 1 l.length 1 _ c1 f1 (by omega) (by omega)
    clear hown' hgrow hnn hat RR GG AT hw1 hw2 hw3 c1 f1 hc0 hf0 HI hne hne'
    go_wp2_with (first | (go_at_call 60; refine (HC.out ()).mono ?_; rintro e w' ⟨rfl, rfl⟩))
    go_end0
    exact ⟨rfl, _, HRR.out, HGG.out, HAT.out⟩
end Go.Proofs.Ytgfamcadgahiiaa
namespace Go.Proofs.Ytgfamcadgahiiaa
set_option linter.unusedSimpArgs false
open Go.ChangeShapes Go.WideShapes Go.ChangeAt Go.RowKit Go.Pin
set_option maxRecDepth 100000 in
theorem rlog_nil (k v : Int) (w : World) :
    Calls Try.prog 52 #[.pointer none, .int .i64 k, .int .i64 v] w fun e w' => e = .returned (.tuple #[]) ∧ w' = w := by
  go_enter Try.func52, Try.ntmps52
  go_wp2
  first | go_end0 | refine bodyPost_ret (results_none rfl _ _ _) rfl ?_
  exact ⟨rfl, rfl⟩
/-- what a call that logs leaves -/
def Logged (B R : Nat) (vs : Value) (l : List (Int × Int)) (x : Int × Int) (w w' : World) : Prop :=
  ∃ vs', Rec B w' R vs' (l ++ [x]) ∧ Grow (Blk R vs) w w' ∧ (vs'.ownBlock = vs.ownBlock ∨ ∃ g, vs'.ownBlock = some g ∧ w.heap.size ≤ g)
set_option maxRecDepth 100000 in
theorem rOp_any (B R : Nat) (vs : Value) (l : List (Int × Int)) (v : Int) (w : World) (h : Rec B w R vs l) (hl : l.length ≤ 1000000) :
    Calls Try.prog 61 #[.pointer (some ⟨R, 0, none⟩), .int .i64 v] w fun e w' => e = .returned (.tuple #[]) ∧ Logged B R vs l (3, v) w w' := by
  have HR : Hid _ := h
  have HL : Hid _ := hl
  clear h hl
  go_enter Try.func61, Try.ntmps61
  go_wp2_with (first | (go_at_call 52; refine (rlog_any B R vs l _ _ _ HR.out HL.out).mono ?_; rintro e w' ⟨rfl, hw⟩))
  go_end0
  exact ⟨rfl, hw⟩
set_option maxRecDepth 100000 in
theorem rOp_nil (v : Int) (w : World) : Calls Try.prog 61 #[.pointer none, .int .i64 v] w fun e w' => e = .returned (.tuple #[]) ∧ w' = w := by
  go_enter Try.func61, Try.ntmps61
  go_wp2_with (first | (go_at_call 52; refine (rlog_nil _ _ _).mono ?_; rintro e w' ⟨rfl, rfl⟩))
  go_end0
  exact ⟨rfl, rfl⟩
/-- a Recorder, or none -/
def RecO (w : World) (v : Value) (vs : Value) (l : List (Int × Int)) : Prop :=
  (v = .pointer none ∧ vs = .slice none 0 0 ∧ l = []) ∨ ∃ B R, v = .pointer (some ⟨R, 0, none⟩) ∧ Rec B w R vs l
theorem Rec.opt {B : Nat} {w : World} {R : Nat} {vs : Value} {l : List (Int × Int)} (h : Rec B w R vs l) : RecO w (.pointer (some ⟨R, 0, none⟩)) vs l := .inr ⟨B, R, rfl, h⟩
theorem recO_nil (w : World) : RecO w (.pointer none) (.slice none 0 0) [] := .inl ⟨rfl, rfl, rfl⟩
theorem RecO.below {w w' : World} {v vs : Value} {l : List (Int × Int)} (h : RecO w v vs l) (hb : Below w.heap.size w w') : RecO w' v vs l := by
  rcases h with h | ⟨B, R, rfl, h⟩
  · exact .inl h
  · exact .inr ⟨B, R, rfl, h.below hb⟩
theorem RecO.owns {w : World} {v vs : Value} {l : List (Int × Int)} (h : RecO w v vs l) : w.ownsRow 0 82 2 vs l.length (evC l) := by
  rcases h with ⟨rfl, rfl, rfl⟩ | ⟨B, R, rfl, h⟩
  · exact World.ownsRow_nil _ _ _ _
  · exact owns_mono (Nat.zero_le _) h.2.2
theorem RecO.sl {w : World} {v vs : Value} {l : List (Int × Int)} (h : RecO w v vs l) : Sl w vs 2 (evC l) l.length := sl_of_owns h.owns
set_option maxRecDepth 100000 in
theorem total_any (v vs : Value) (l : List (Int × Int)) (w : World) (h : RecO w v vs l) :
    Calls Try.prog 11 #[v] w fun e w' => e = .returned (.int .i64 l.length) ∧ w' = w := by
  rcases h with ⟨rfl, rfl, rfl⟩ | ⟨B, R, rfl, h⟩
  · go_enter Try.func11, Try.ntmps11
    go_wp2
    go_ret
    exact ⟨rfl, rfl⟩
  · have hc0 := h.cell0
    have HC : Hid _ := h.cell1
    clear h
    go_enter Try.func11, Try.ntmps11
    go_wp2_with (first | (go_at_call 32; refine (aLoad_any R 1 l.length _ HC.out).mono ?_; rintro e w' ⟨rfl, rfl⟩))
    go_ret
    exact ⟨rfl, rfl⟩
theorem rec_new (w : World) : Rec w.heap.size (w.alloc (.cells #[.slice none 0 0, .int .i64 0] 78)) w.heap.size (.slice none 0 0) [] :=
  ⟨Nat.le_refl _, by rw [heap_alloc_any, if_pos rfl]; rfl, World.ownsRow_nil _ _ _ _⟩
set_option maxRecDepth 100000 in
theorem new_any (w : World) :
    Calls Try.prog 9 #[] w fun e w' => e = .returned (.pointer (some ⟨w.heap.size, 0, none⟩)) ∧ w' = w.alloc (.cells #[.slice none 0 0, .int .i64 0] 78) := by
  go_enter Try.func9, Try.ntmps9
  go_wp2
  go_ret
  exact ⟨rfl, rfl⟩
end Go.Proofs.Ytgfamcadgahiiaa
namespace Go.Proofs.Ytgfamcadgahiiaa
set_option linter.unusedSimpArgs false
open Go.ChangeShapes Go.WideShapes Go.ChangeAt Go.RowKit Go.Pin Go.Prm
theorem infoE : (Try.prog.info? 66).map (·.size) = some 5 := by kernel_rfl
theorem infoA5 : (Try.prog.info? 64).map (·.size) = some 5 := by kernel_rfl
theorem VI5 (k : IntKind) {l : List Int} (h : l.length = 5) : (VI k l).size = 5 := by simp [h]
/-- a row of limbs in its box -/
abbrev rowAt (w : World) (g : Nat) (l : List Int) (T : TypeId) : Prop := w.heap[g]? = some (.cells (VI .u64 l) T (0, 0))
theorem row_cell {w : World} {g : Nat} {l : List Int} {T : TypeId} (h : rowAt w g l T) {i : Nat} (hi : i < l.length) : w.cell? ⟨g, i, none⟩ = some (.int .u64 (l.getD i 0)) := by
  rw [cell_of_row w _ _ _ _ _ h, VI_at _ _ _ hi]
theorem row_set {w : World} {g : Nat} {l : List Int} {T : TypeId} (h : rowAt w g l T) (i : Nat) (v : Int) : rowAt (w.setCell ⟨g, i, none⟩ (.int .u64 v)) g (l.set i v) T := by
  unfold rowAt
  rw [heap_setCell_same w _ _ _ _ _ h, VI_set]
theorem row_other {w : World} {g : Nat} {o : Option Obj} (h : w.heap[g]? = o) {p : Addr} (hp : g ≠ p.block) (v : Value) : (w.setCell p v).heap[g]? = o := by
  rw [heap_setCell_other _ _ _ _ hp]; exact h
theorem fill_step (b R : List Int) (k : Nat) (hl : R.length = 10) (hk : k < 5) (h : ∀ j, j < k → R.getD j 0 = 5 * b.getD j 0 ∧ R.getD (j + 5) 0 = b.getD j 0) :
    ∀ j, j < k + 1 → ((R.set k (5 * b.getD k 0)).set (k + 5) (b.getD k 0)).getD j 0 = 5 * b.getD j 0 ∧ ((R.set k (5 * b.getD k 0)).set (k + 5) (b.getD k 0)).getD (j + 5) 0 = b.getD j 0 := by
  intro j hj
  simp only [List.getD_eq_getElem?_getD, List.getElem?_set, List.length_set] at h ⊢
  by_cases e : j = k
  · subst e
    constructor
    · rw [if_neg (by omega), if_pos rfl, if_pos (by omega)]; rfl
    · rw [if_pos rfl, if_pos (by omega)]; rfl
  · have := h j (by omega)
    constructor
    · rw [if_neg (by omega), if_neg (by omega)]; exact this.1
    · rw [if_neg (by omega), if_neg (by omega)]; exact this.2
theorem fill_done (b R : List Int) (hl : R.length = 10) (hb : b.length = 5) (h : ∀ j, j < 5 → R.getD j 0 = 5 * b.getD j 0 ∧ R.getD (j + 5) 0 = b.getD j 0) : R = rw10 b := by
  obtain ⟨b0, b1, b2, b3, b4, rfl⟩ := five hb
  match R, hl with
  | [r0, r1, r2, r3, r4, r5, r6, r7, r8, r9], _ =>
    have h0 := h 0 (by omega)
    have h1 := h 1 (by omega)
    have h2 := h 2 (by omega)
    have h3 := h 3 (by omega)
    have h4 := h 4 (by omega)
    simp at h0 h1 h2 h3 h4
    simp [rw10, h0, h1, h2, h3, h4]
theorem lim_at {a : List Int} (h : Lim a) {k : Nat} (hk : k < 5) : 0 ≤ a.getD k 0 ∧ a.getD k 0 < 134217728 := by
  have : k < a.length := by rw [h.len]; exact hk
  exact h.bd _ (by rw [List.getD_eq_getElem?_getD, List.getElem?_eq_getElem this]; exact List.getElem_mem this)
theorem rw10_len {b : List Int} (h : b.length = 5) : (rw10 b).length = 10 := by simp [rw10, h]
theorem rw10_bd {b : List Int} (h : Lim b) : ∀ x ∈ rw10 b, 0 ≤ x ∧ x < 671088640 := by
  intro x hx
  simp only [rw10, List.mem_append, List.mem_map] at hx
  rcases hx with ⟨y, hy, rfl⟩ | hx
  · have := h.bd y hy; omega
  · have := h.bd x hx; omega
theorem rw10_at {b : List Int} (h : Lim b) {k : Nat} (hk : k < 10) : 0 ≤ (rw10 b).getD k 0 ∧ (rw10 b).getD k 0 < 671088640 := by
  have : k < (rw10 b).length := by rw [rw10_len h.len]; exact hk
  exact rw10_bd h _ (by rw [List.getD_eq_getElem?_getD, List.getElem?_eq_getElem this]; exact List.getElem_mem this)
theorem bdq {x y : Int} (x0 : 0 ≤ x) (x1 : x < 134217728) (y0 : 0 ≤ y) (y1 : y < 671088640) : 0 ≤ x * y ∧ x * y < 90071992547409920 :=
  ⟨Int.mul_nonneg x0 y0, by
    have h1 : x * y ≤ 134217728 * y := Int.mul_le_mul_of_nonneg_right (by omega) y0
    omega⟩
theorem sm_bd {a b : List Int} (ha : Lim a) (hb : Lim b) (p : Nat) : ∀ k : Nat, 0 ≤ sm a (rw10 b) p k ∧ sm a (rw10 b) p k ≤ k * 90071992547409920
  | 0 => by simp [sm]
  | k + 1 => by
    have ih := sm_bd ha hb p k
    have ga : 0 ≤ a.getD k 0 ∧ a.getD k 0 < 134217728 := by
      by_cases h : k < 5
      · exact lim_at ha h
      · rw [List.getD_eq_getElem?_getD, List.getElem?_eq_none (by rw [ha.len]; omega)]; simp
    have gb : 0 ≤ (rw10 b).getD (p + 5 - k) 0 ∧ (rw10 b).getD (p + 5 - k) 0 < 671088640 := by
      by_cases h : p + 5 - k < 10
      · exact rw10_at hb h
      · rw [List.getD_eq_getElem?_getD, List.getElem?_eq_none (by rw [rw10_len hb.len]; omega)]; simp
    have := bdq ga.1 ga.2 gb.1 gb.2
    simp only [sm]
    generalize a.getD k 0 * (rw10 b).getD (p + 5 - k) 0 = z at *
    omega
theorem sums_at (a b : List Int) (k : Nat) (hk : k < 5) {s : Int} {r : List Int} (h : s :: r = (sums a b).drop k) : s = sm a (rw10 b) k 5 := by
  have h5 : k = 0 ∨ k = 1 ∨ k = 2 ∨ k = 3 ∨ k = 4 := by omega
  rcases h5 with rfl | rfl | rfl | rfl | rfl <;> simp [sums] at h <;> exact h.1
theorem cells5 {w : World} {g : Nat} {x0 x1 x2 x3 x4 : Int} {T : TypeId} (h : rowAt w g [x0, x1, x2, x3, x4] T) : w.cell? ⟨g, 0, none⟩ = some (.int .u64 x0) ∧ w.cell? ⟨g, 1, none⟩ = some (.int .u64 x1) ∧ w.cell? ⟨g, 2, none⟩ = some (.int .u64 x2) ∧ w.cell? ⟨g, 3, none⟩ = some (.int .u64 x3) ∧ w.cell? ⟨g, 4, none⟩ = some (.int .u64 x4) :=
  ⟨row_cell h (i := 0) (by simp), row_cell h (i := 1) (by simp), row_cell h (i := 2) (by simp), row_cell h (i := 3) (by simp), row_cell h (i := 4) (by simp)⟩
theorem row_below {w w' : World} {g : Nat} {l : List Int} {T : TypeId} (h : rowAt w g l T) (hb : Below w.heap.size w w') : rowAt w' g l T :=
  (hb.block g (Array.getElem?_eq_some_iff.1 h).1).trans h
theorem row_grow {S : Nat → Prop} {w w' : World} {g : Nat} {l : List Int} {T : TypeId} (h : rowAt w g l T) (hb : Grow S w w') (hS : ¬ S g) : rowAt w' g l T :=
  (hb.block g (Array.getElem?_eq_some_iff.1 h).1 hS).trans h
end Go.Proofs.Ytgfamcadgahiiaa
namespace Go.Proofs.Ytgfamcadgahiiaa
set_option linter.unusedSimpArgs false
open Go.ChangeShapes Go.WideShapes Go.ChangeAt Go.RowKit Go.Pin Go.Prm
/-- a call of Op that leaves what Q says, from every world above w -/
structure Opc (rv : Value) (v : Int) (w : World) (Q : World → World → Prop) : Prop where
  call : ∀ W, Below w.heap.size w W → Calls Try.prog 61 #[rv, .int .i64 v] W fun e W' => e = .returned (.tuple #[]) ∧ Q W W'
  keep : ∀ W W', Below w.heap.size w W → Q W W' → Grow (fun k => k < w.heap.size) W W'
/-- what a call that logs one operation leaves -/
def Opd (Q : World → World → Prop) (w w' : World) : Prop :=
  ∃ W W', Below w.heap.size w W ∧ Q W W' ∧ Grow (fun k => w.heap.size ≤ k ∧ k < W.heap.size) W' w'
theorem opc_nil (v : Int) (w : World) : Opc (.pointer none) v w (fun W W' => W' = W) :=
  ⟨fun W _ => rOp_nil v W, fun W W' _ h => by rw [h]; exact ⟨rfl, rfl, rfl, Nat.le_refl _, fun _ _ _ => rfl⟩⟩
theorem Opd.nil {w w' : World} (h : Opd (fun W W' => W' = W) w w') : Below w.heap.size w w' := by
  obtain ⟨W, _, h1, rfl, h2⟩ := h
  exact ⟨h2.os.trans h1.os, h2.tape.trans h1.tape, h2.output.trans h1.output, Nat.le_trans h1.size h2.size, fun k hk => (h2.block k (Nat.lt_of_lt_of_le hk h1.size) (by omega)).trans (h1.block k hk)⟩
theorem opc_rec {B R : Nat} {vs : Value} {l : List (Int × Int)} {w : World} (v : Int) (h : Rec B w R vs l) (hl : l.length ≤ 1000000) : Opc (.pointer (some ⟨R, 0, none⟩)) v w (Logged B R vs l (3, v)) :=
  ⟨fun W hW => rOp_any B R vs l v W (h.below hW) hl, fun W W' _ hq => by
    obtain ⟨vs', _, h2, _⟩ := hq
    exact h2.mono (fun k hk => h.lt k hk)⟩
theorem Opd.rec {B R : Nat} {vs : Value} {l : List (Int × Int)} {x : Int × Int} {w w' : World} (h : Rec B w R vs l) (ho : Opd (Logged B R vs l x) w w') : Logged B R vs l x w w' := by
  obtain ⟨W, W', h1, ⟨vs', h2, h3, h4⟩, h5⟩ := ho
  have hR : R < w.heap.size := h.lt R (.inl rfl)
  have hS : ∀ k, Blk R vs' k → ¬ (w.heap.size ≤ k ∧ k < W.heap.size) := by
    intro k hk
    rcases hk with rfl | hk
    · omega
    · rcases h4 with h4 | ⟨g, h4, hg⟩
      · have := h.lt k (.inr (h4 ▸ hk)); omega
      · rw [h4] at hk; injection hk with hk; omega
  refine ⟨vs', h2.grow h5 hS, ?_, ?_⟩
  · have g1 : Grow (Blk R vs) w W := Grow.of_below h1
    have g2 := g1.trans h3
    exact ⟨h5.os.trans g2.os, h5.tape.trans g2.tape, h5.output.trans g2.output, Nat.le_trans g2.size h5.size, fun k hk hn => (h5.block k (Nat.lt_of_lt_of_le hk g2.size) (by omega)).trans (g2.block k hk hn)⟩
  · rcases h4 with h4 | ⟨g, h4, hg⟩
    · exact .inl h4
    · exact .inr ⟨g, h4, Nat.le_trans h1.size hg⟩
theorem row5 {w : World} {g : Nat} {l : List Int} {T : TypeId} (h : rowAt w g l T) (h5 : l.length = 5) : ∃ x0 x1 x2 x3 x4, Hid (l = [x0, x1, x2, x3, x4]) ∧
    w.cell? ⟨g, 0, none⟩ = some (.int .u64 x0) ∧ w.cell? ⟨g, 1, none⟩ = some (.int .u64 x1) ∧ w.cell? ⟨g, 2, none⟩ = some (.int .u64 x2) ∧ w.cell? ⟨g, 3, none⟩ = some (.int .u64 x3) ∧ w.cell? ⟨g, 4, none⟩ = some (.int .u64 x4) ∧
    w.frozen? ⟨g, 0, none⟩ = false ∧ w.frozen? ⟨g, 1, none⟩ = false ∧ w.frozen? ⟨g, 2, none⟩ = false ∧ w.frozen? ⟨g, 3, none⟩ = false ∧ w.frozen? ⟨g, 4, none⟩ = false := by
  obtain ⟨x0, x1, x2, x3, x4, rfl⟩ := five h5
  exact ⟨x0, x1, x2, x3, x4, rfl, row_cell h (i := 0) (by simp), row_cell h (i := 1) (by simp), row_cell h (i := 2) (by simp), row_cell h (i := 3) (by simp), row_cell h (i := 4) (by simp),
    frozen_of_row w _ _ _ _ h, frozen_of_row w _ _ _ _ h, frozen_of_row w _ _ _ _ h, frozen_of_row w _ _ _ _ h, frozen_of_row w _ _ _ _ h⟩
/-- the last lines of a call whose result is an Element at n + 2 -/
theorem store5 {w : World} {g : Nat} {T : TypeId} (h : rowAt w g (List.replicate 5 0) T) (x0 x1 x2 x3 x4 : Int) :
    rowAt (((((w.setCell ⟨g, 0, none⟩ (.int .u64 x0)).setCell ⟨g, 1, none⟩ (.int .u64 x1)).setCell ⟨g, 2, none⟩ (.int .u64 x2)).setCell ⟨g, 3, none⟩ (.int .u64 x3)).setCell ⟨g, 4, none⟩ (.int .u64 x4)) g [x0, x1, x2, x3, x4] T :=
  row_set (row_set (row_set (row_set (row_set h 0 _) 1 _) 2 _) 3 _) 4 _
theorem Grow.setCell {S : Nat → Prop} {a w : World} (h : Grow S a w) {p : Addr} (hp : S p.block ∨ a.heap.size ≤ p.block) (u : Value) : Grow S a (w.setCell p u) :=
  ⟨h.os, h.tape, h.output, by simpa using h.size, fun k hk hn => by
    rw [heap_setCell_other _ _ _ _ (by rcases hp with hp | hp; exact fun e => hn (by rw [e]; exact hp); omega)]; exact h.block k hk hn⟩
theorem Grow.refl (S : Nat → Prop) (w : World) : Grow S w w := ⟨rfl, rfl, rfl, Nat.le_refl _, fun _ _ _ => rfl⟩
theorem Grow.drew {S : Nat → Prop} {a w : World} (h : Grow S a w) : Grow S a w.drew := ⟨h.os, h.tape, h.output, h.size, h.block⟩
theorem Grow.but {S : Nat → Prop} {a w w' : World} (h : Grow S a w) {T : Nat → Prop} (hb : But T w w') (hT : ∀ k, T k → S k ∨ a.heap.size ≤ k) : Grow S a w' :=
  ⟨hb.os.trans h.os, hb.tape.trans h.tape, hb.output.trans h.output, by rw [hb.size]; exact h.size, fun k hk hn => (hb.block k (fun ht => by rcases hT k ht with h1 | h1; exact hn h1; omega)).trans (h.block k hk hn)⟩
theorem Grow.bel {S : Nat → Prop} {a w w' : World} (h : Grow S a w) (hb : Below w.heap.size w w') : Grow S a w' := h.trans (Grow.of_below hb)
/-- the boxes of Add and Sub -/
structure AW (n : Nat) (W' : World) (x b : List Int) (wr : World) : Prop where
  grow : Grow (fun k => n ≤ k ∧ k < n + 3) W' wr
  sz : n + 3 ≤ wr.heap.size
  ha : rowAt wr n x 66
  hb : rowAt wr (n + 1) b 66
  hr : rowAt wr (n + 2) (List.replicate 5 0) 66
theorem AW.set {n : Nat} {W' wr : World} {x b : List Int} (h : AW n W' x b wr) (i : Nat) (v : Int) : AW n W' (x.set i v) b (wr.setCell ⟨n, i, none⟩ (.int .u64 v)) :=
  ⟨h.grow.setCell (.inl ⟨Nat.le_refl _, by simp⟩) _, by simpa using h.sz, row_set h.ha _ _, row_other h.hb (by simp) _, row_other h.hr (by simp) _⟩
theorem AW.drew {n : Nat} {W' wr : World} {x b : List Int} (h : AW n W' x b wr) : AW n W' x b wr.drew := ⟨h.grow.drew, h.sz, h.ha, h.hb, h.hr⟩
theorem AW.up {n : Nat} {W' wr w2 : World} {x b y : List Int} (h : AW n W' x b wr) (hu : Up n 66 y wr w2) : AW n W' y b w2 :=
  ⟨h.grow.but hu.but (fun k hk => .inl (by omega)), by rw [hu.but.size]; exact h.sz, hu.row, (hu.but.block _ (by omega)).trans h.hb, (hu.but.block _ (by omega)).trans h.hr⟩
theorem alloc3_rows (w : World) (a b : List Int) : rowAt (((w.alloc (.cells (VI .u64 a) 66)).alloc (.cells (VI .u64 b) 66)).alloc (.cells (VI .u64 (List.replicate 5 0)) 66)) w.heap.size a 66 ∧
    rowAt (((w.alloc (.cells (VI .u64 a) 66)).alloc (.cells (VI .u64 b) 66)).alloc (.cells (VI .u64 (List.replicate 5 0)) 66)) (w.heap.size + 1) b 66 ∧
    rowAt (((w.alloc (.cells (VI .u64 a) 66)).alloc (.cells (VI .u64 b) 66)).alloc (.cells (VI .u64 (List.replicate 5 0)) 66)) (w.heap.size + 2) (List.replicate 5 0) 66 ∧
    (((w.alloc (.cells (VI .u64 a) 66)).alloc (.cells (VI .u64 b) 66)).alloc (.cells (VI .u64 (List.replicate 5 0)) 66)).heap.size = w.heap.size + 3 ∧
    Below w.heap.size w (((w.alloc (.cells (VI .u64 a) 66)).alloc (.cells (VI .u64 b) 66)).alloc (.cells (VI .u64 (List.replicate 5 0)) 66)) := by
  refine ⟨?_, ?_, ?_, by simp [size_alloc], (((Below.refl _ _).alloc (Nat.le_refl _) _).alloc (by simp) _).alloc (by simp; omega) _⟩
  all_goals simp only [rowAt, heap_alloc_any, size_alloc]
  · rw [if_neg (by omega), if_neg (by omega), if_pos trivial]
  · rw [if_neg (by omega), if_pos trivial]
  · rw [if_pos trivial]
theorem AW.start {n : Nat} {W W' : World} {a b : List Int} (ha : rowAt W n a 66) (hb : rowAt W (n + 1) b 66) (hr : rowAt W (n + 2) (List.replicate 5 0) 66) (hs : W.heap.size = n + 3) (hg : Grow (fun k => k < n) W W') : AW n W' a b W' :=
  ⟨Grow.refl _ _, by rw [← hs]; exact hg.size, (hg.block _ (by omega) (by omega)).trans ha, (hg.block _ (by omega) (by omega)).trans hb, (hg.block _ (by omega) (by omega)).trans hr⟩
set_option maxRecDepth 100000 in
set_option maxHeartbeats 4000000 in
theorem add_any (rv : Value) (a b : List Int) (ha : Lim a) (hb : Lim b) (w : World) (Q : World → World → Prop) (hq : Opc rv 11 w Q) :
    Calls Try.prog 54 #[rv, .agg (VI .u64 a), .agg (VI .u64 b)] w fun e w' => e = .returned (.agg (VI .u64 (stl (List.zipWith (· + ·) a b)))) ∧ Opd Q w w' := by
  have HA : Hid (Lim a) := ha
  have HB : Hid (Lim b) := hb
  have HQ : Hid (Opc rv 11 w Q) := hq
  clear ha hb hq
  obtain ⟨r1, r2, r3, hs, hbw⟩ := alloc3_rows w a b
  obtain ⟨W, hW⟩ : ∃ W, ((w.alloc (.cells (VI .u64 a) 66)).alloc (.cells (VI .u64 b) 66)).alloc (.cells (VI .u64 (List.replicate 5 0)) 66) = W := ⟨_, rfl⟩
  have hW' : ((w.alloc (.cells (VI .u64 a) 66)).alloc (.cells (VI .u64 b) 66)).alloc (.cells #[.int .u64 0, .int .u64 0, .int .u64 0, .int .u64 0, .int .u64 0] 66) = W := hW
  rw [hW] at r1 r2 r3 hs hbw
  have HS : Hid (W.heap.size = w.heap.size + 3) := hs
  have HBW : Hid (Below w.heap.size w W) := hbw
  have HAW : Hid (∀ W1, Grow (fun k => k < w.heap.size) W W1 → AW w.heap.size W1 a b W1) := fun W1 hg => AW.start r1 r2 r3 hs hg
  clear hW r1 r2 r3 hs hbw
  go_enter Try.func54, Try.ntmps54
  go_wp2_with (go_at_call 61; refine (HQ.out.call _ HBW.out).mono ?_; rintro e W1 ⟨rfl, hQ⟩)
  have HAW1 : Hid (AW w.heap.size W1 a b W1) := HAW.out W1 (HQ.out.keep _ _ HBW.out hQ)
  have HD : Hid (∀ w', Grow (fun k => w.heap.size ≤ k ∧ k < w.heap.size + 3) W1 w' → Opd Q w w') := fun w' hg => ⟨W, W1, HBW.out, hQ, hg.mono (fun k hk => by rw [HS.out]; exact hk)⟩
  clear HAW hQ hW' HQ HBW HS
  clear W
  obtain ⟨zl, zb⟩ := zip_lim HA.out HB.out
  have HZ : Hid (∀ x ∈ List.zipWith (· + ·) a b, 0 ≤ x ∧ x < 1152921504606846976) := zb
  clear zb
  go_loopw [10] (fun i w' => ∃ k : Nat, k ≤ 5 ∧ i = .int .i64 k ∧ AW w.heap.size W1 ((List.zipWith (· + ·) a b).take k ++ a.drop k) b w') (fun i _ => 5 - (intOf i).toNat)
  case atStart => exact ⟨0, Nat.zero_le _, rfl, HAW1.out⟩
  case round =>
    clear HAW1
    obtain ⟨k, hk, rfl, hp⟩ := hrel
    by_cases hlt : k < 5
    · have hka : k < a.length := by rw [HA.out.len]; exact hlt
      have hkb : k < b.length := by rw [HB.out.len]; exact hlt
      have hkz : k < (List.zipWith (· + ·) a b).length := by rw [zl]; exact hlt
      have hca := row_cell hp.ha (i := k) (by simp; omega)
      rw [List.getD_eq_getElem?_getD, get_step _ _ _ hkz hka] at hca
      have hcb := row_cell hp.hb (i := k) hkb
      rw [List.getD_eq_getElem?_getD, List.getElem?_eq_getElem hkb, Option.getD_some] at hcb
      have hfz : wr.frozen? ⟨w.heap.size, k, none⟩ = false := frozen_of_row wr _ _ _ _ hp.ha
      obtain ⟨xa0, xa1⟩ := HA.out.bd _ (List.getElem_mem hka)
      obtain ⟨xb0, xb1⟩ := HB.out.bd _ (List.getElem_mem hkb)
      have hst := hp.set k (a[k] + b[k])
      have hz : (List.zipWith (· + ·) a b)[k] = a[k] + b[k] := List.getElem_zipWith ..
      rw [← hz, set_step _ _ _ hkz hka, hz] at hst
      have HST : Hid (AW w.heap.size W1 ((List.zipWith (· + ·) a b).take (k + 1) ++ a.drop (k + 1)) b (wr.setCell ⟨w.heap.size, k, none⟩ (.int .u64 (a[k] + b[k])))) := hst
      clear hp hst hz
      generalize a[k] = ak at *
      generalize b[k] = bk at *
      go_wp2
      go_region
      go_wp2
      go_roundw
      case rel => exact ⟨k + 1, by omega, by go_num, HST.out.drew⟩
      case measure => simp [intOf]; omega
    · have hk' : k = 5 := by omega
      subst hk'
      rw [List.take_of_length_le (by omega), List.drop_of_length_le (by rw [HA.out.len]; omega), List.append_nil] at hp
      have HP : Hid (AW w.heap.size W1 (List.zipWith (· + ·) a b) b wr) := hp
      clear hp
      go_wp2_with (go_at_call 62; refine (settle_any w.heap.size 66 (List.zipWith (· + ·) a b) zl HZ.out wr HP.out.ha).mono ?_; rintro e w2 ⟨rfl, hU⟩; have hp2 := HP.out.up hU; obtain ⟨x0, x1, x2, x3, x4, hxe, hx0, hx1, hx2, hx3, hx4, _, _, _, _, _⟩ := row5 hp2.ha (stl_lim _ zl HZ.out).1.len; obtain ⟨_, _, _, _, _, _, hy0, hy1, hy2, hy3, hy4, hz0, hz1, hz2, hz3, hz4⟩ := row5 hp2.hr (by simp); have HP2 : Hid (AW w.heap.size W1 (stl (List.zipWith (· + ·) a b)) b w2) := hp2; clear hp2 hU)
      refine bodyPost_ret (v := .agg (VI .u64 [x0, x1, x2, x3, x4])) ?_ rfl ⟨by rw [hxe.out], HD.out _ (((((HP2.out.grow.setCell ?_ _).setCell ?_ _).setCell ?_ _).setCell ?_ _).setCell ?_ _)⟩
      · exact results_cell_row (P := Try.prog) (fn := Try.f54) (p := 6) (ty := 66) rfl _ _ (w.heap.size + 1 + 1) 66 (VI .u64 [x0, x1, x2, x3, x4]) (0, 0) _ rfl (store5 HP2.out.hr x0 x1 x2 x3 x4) Try.underlying66 rfl infoE
      all_goals (left; simp; omega)
end Go.Proofs.Ytgfamcadgahiiaa
namespace Go.Proofs.Ytgfamcadgahiiaa
set_option linter.unusedSimpArgs false
open Go.ChangeShapes Go.WideShapes Go.ChangeAt Go.RowKit Go.Pin Go.Prm
theorem but_setRow (w : World) (g : Nat) (cs : Array Value) : But (fun k => k = g) w (w.setRow g cs) :=
  ⟨rfl, rfl, rfl, size_setRow _ _ _, fun k hk => setRow_other w g k _ hk⟩
/-- least's boxes: a, the result, more -/
structure LW (n : Nat) (w : World) (x m : List Int) (wr : World) : Prop where
  old : Below n w wr
  ha : rowAt wr n x 66
  hr : rowAt wr (n + 1) (List.replicate 5 0) 64
  hm : rowAt wr (n + 2) m 64
theorem LW.setM {n : Nat} {w wr : World} {x m : List Int} (h : LW n w x m wr) (i : Nat) (v : Int) : LW n w x (m.set i v) (wr.setCell ⟨n + 2, i, none⟩ (.int .u64 v)) :=
  ⟨h.old.setCell (by simp) _, row_other h.ha (by simp) _, row_other h.hr (by simp) _, row_set h.hm _ _⟩
theorem LW.setA {n : Nat} {w wr : World} {x m : List Int} (h : LW n w x m wr) (i : Nat) (v : Int) : LW n w (x.set i v) m (wr.setCell ⟨n, i, none⟩ (.int .u64 v)) :=
  ⟨h.old.setCell (by simp) _, row_set h.ha _ _, row_other h.hr (by simp) _, row_other h.hm (by simp) _⟩
theorem LW.rowM {n : Nat} {w wr : World} {x m : List Int} (h : LW n w x m wr) (y : List Int) : LW n w x y (wr.setRow (n + 2) (VI .u64 y)) :=
  have b := but_setRow wr (n + 2) (VI .u64 y)
  ⟨h.old.trans (b.below (fun k hk => by omega)), (b.block _ (by omega)).trans h.ha, (b.block _ (by omega)).trans h.hr, setRow_heap _ _ _ _ _ _ h.hm⟩
theorem LW.rowA {n : Nat} {w wr : World} {x m : List Int} (h : LW n w x m wr) (y : List Int) : LW n w y m (wr.setRow n (VI .u64 y)) :=
  have b := but_setRow wr n (VI .u64 y)
  ⟨h.old.trans (b.below (fun k hk => by omega)), setRow_heap _ _ _ _ _ _ h.ha, (b.block _ (by omega)).trans h.hr, (b.block _ (by omega)).trans h.hm⟩
theorem LW.drew {n : Nat} {w wr : World} {x m : List Int} (h : LW n w x m wr) : LW n w x m wr.drew := ⟨h.old.drew, h.ha, h.hr, h.hm⟩
theorem lw_start (w : World) (a : List Int) : rowAt ((w.alloc (.cells (VI .u64 a) 66)).alloc (.cells (VI .u64 (List.replicate 5 0)) 64)) w.heap.size a 66 ∧
    rowAt ((w.alloc (.cells (VI .u64 a) 66)).alloc (.cells (VI .u64 (List.replicate 5 0)) 64)) (w.heap.size + 1) (List.replicate 5 0) 64 ∧
    ((w.alloc (.cells (VI .u64 a) 66)).alloc (.cells (VI .u64 (List.replicate 5 0)) 64)).heap.size = w.heap.size + 2 ∧
    Below w.heap.size w ((w.alloc (.cells (VI .u64 a) 66)).alloc (.cells (VI .u64 (List.replicate 5 0)) 64)) := by
  refine ⟨?_, ?_, by simp [size_alloc], ((Below.refl _ _).alloc (Nat.le_refl _) _).alloc (by simp) _⟩
  all_goals simp only [rowAt, heap_alloc_any, size_alloc]
  · rw [if_neg (by omega), if_pos trivial]
  · rw [if_pos trivial]
theorem lw_next {w W1 w2 : World} {s : List Int} (m : List Int) (h1 : rowAt W1 (w.heap.size + 1) (List.replicate 5 0) 64) (hs : W1.heap.size = w.heap.size + 2) (hb : Below w.heap.size w W1) (hu : Up w.heap.size 66 s W1 w2) :
    LW w.heap.size w s m (w2.alloc (.cells (VI .u64 m) 64)) ∧ w2.heap.size = w.heap.size + 2 := by
  have h2 : w2.heap.size = w.heap.size + 2 := hu.but.size.trans hs
  refine ⟨⟨(hb.trans (hu.but.below (fun k hk => by omega))).alloc (by omega) _, ?_, ?_, ?_⟩, h2⟩
  · simp only [rowAt, heap_alloc_any, h2]; rw [if_neg (by omega)]; exact hu.row
  · simp only [rowAt, heap_alloc_any, h2]; rw [if_neg (by omega)]; exact (hu.but.block _ (by omega)).trans h1
  · simp only [rowAt, heap_alloc_any, h2]; rw [if_pos trivial]
set_option maxRecDepth 100000 in
set_option maxHeartbeats 4000000 in
theorem least_any (a : List Int) (ha : Lim a) (w : World) :
    Calls Try.prog 63 #[.agg (VI .u64 a)] w fun e w' => e = .returned (.agg (VI .u64 (lst a))) ∧ Below w.heap.size w w' := by
  obtain ⟨s0, s1, s2, s3, s4, c, hs, p0, q0, p1, q1, p2, q2, p3, q3, p4, q4, hc, c0, c1, hl, _, hlb, hll⟩ := lst_facts ha
  obtain ⟨x0, x1, x2, x3, x4, hx⟩ := five hll
  have HL : Hid (lst a = [x0, x1, x2, x3, x4]) := hx
  have HC : Hid (co 0 [s0 + 5, s1, s2, s3, s4] = c) := hc
  have HE : Hid (lst a = cy 0 [s0 + 5 * c, s1, s2, s3, s4]) := hl
  obtain ⟨r1, r2, hsz, hbw⟩ := lw_start w a
  obtain ⟨W, hW⟩ : ∃ W, (w.alloc (.cells (VI .u64 a) 66)).alloc (.cells (VI .u64 (List.replicate 5 0)) 64) = W := ⟨_, rfl⟩
  have hW' : (w.alloc (.cells (VI .u64 a) 66)).alloc (.cells #[.int .u64 0, .int .u64 0, .int .u64 0, .int .u64 0, .int .u64 0] 64) = W := hW
  rw [hW] at r1 r2 hsz hbw
  have HST : Hid (∀ w2, Up w.heap.size 66 (stl a) W w2 → rowAt w2 w.heap.size [s0, s1, s2, s3, s4] 66 ∧ LW w.heap.size w [s0, s1, s2, s3, s4] [s0 + 5, s1, s2, s3, s4] (w2.alloc (.cells #[.int .u64 (s0 + 5), .int .u64 s1, .int .u64 s2, .int .u64 s3, .int .u64 s4] 64)) ∧ w2.heap.size = w.heap.size + 2) := fun w2 hu => by
    rw [hs] at hu
    exact ⟨hu.row, lw_next [s0 + 5, s1, s2, s3, s4] r2 hsz hbw hu⟩
  have HSA : Hid (Calls Try.prog 62 #[.pointer (some ⟨w.heap.size, 0, none⟩)] W fun e w' => e = .returned (.tuple #[]) ∧ Up w.heap.size 66 (stl a) W w') := settle_any w.heap.size 66 a ha.len (fun x hx => by have := ha.bd x hx; omega) W r1
  clear hW r1 r2 hsz hbw hlb hll hx hc hl hs ha
  go_enter Try.func63, Try.ntmps63
  go_wp2_with (go_at_call 62; refine HSA.out.mono ?_; rintro e w2 ⟨rfl, hU⟩; obtain ⟨hr2, hlw, hs2⟩ := HST.out w2 hU; obtain ⟨hc0, hc1, hc2, hc3, hc4⟩ := cells5 hr2; have HLW : Hid (LW w.heap.size w [s0, s1, s2, s3, s4] [s0 + 5, s1, s2, s3, s4] (w2.alloc (.cells #[.int .u64 (s0 + 5), .int .u64 s1, .int .u64 s2, .int .u64 s3, .int .u64 s4] 64))) := hlw; clear hr2 hlw hU HSA HST)
  obtain ⟨W3, hW3⟩ : ∃ W3, w2.alloc (.cells #[.int .u64 (s0 + 5), .int .u64 s1, .int .u64 s2, .int .u64 s3, .int .u64 s4] 64) = W3 := ⟨_, rfl⟩
  rw [hW3] at HLW ⊢
  clear hW3 hc0 hc1 hc2 hc3 hc4 hs2
  obtain ⟨hc0, _, _, _, _⟩ := cells5 HLW.out.ha
  have hf0 : W3.frozen? ⟨w.heap.size, 0, none⟩ = false := frozen_of_row W3 _ _ _ _ HLW.out.ha
  have HCA : Hid (∀ W, rowAt W (w.heap.size + 2) [s0 + 5, s1, s2, s3, s4] 64 → Calls Try.prog 69 #[.pointer (some ⟨w.heap.size + 2, 0, none⟩)] W fun e w' => e = .returned (.int .u64 c) ∧ w' = W.setRow (w.heap.size + 2) (VI .u64 (cy 0 [s0 + 5, s1, s2, s3, s4]))) := fun W hw => by
    have := carry_any (w.heap.size + 2) 64 [s0 + 5, s1, s2, s3, s4] rfl (by simp only [List.mem_cons, List.not_mem_nil, or_false, forall_eq_or_imp, forall_eq]; omega) W hw
    rw [HC.out] at this
    exact this
  have HCB : Hid (∀ W, rowAt W w.heap.size [s0 + 5 * c, s1, s2, s3, s4] 66 → Calls Try.prog 69 #[.pointer (some ⟨w.heap.size, 0, none⟩)] W fun e w' => e = .returned (.int .u64 (co 0 [s0 + 5 * c, s1, s2, s3, s4])) ∧ w' = W.setRow w.heap.size (VI .u64 (lst a))) := fun W hw => by
    have := carry_any w.heap.size 66 [s0 + 5 * c, s1, s2, s3, s4] rfl (by simp only [List.mem_cons, List.not_mem_nil, or_false, forall_eq_or_imp, forall_eq]; omega) W hw
    rw [← HE.out] at this
    exact this
  have hwc : IntKind.u64.wrap (5 * c) = 5 * c := by rw [IntKind.wrap_u64]; omega
  have hws : IntKind.u64.wrap (s0 + 5 * c) = s0 + 5 * c := by rw [IntKind.wrap_u64]; omega
  go_region_with (go_at_call 69; refine (HCA.out W3.drew HLW.out.hm).mono ?_; rintro e w4 ⟨rfl, hw4⟩; have hlw4 := HLW.out.drew.rowM (cy 0 [s0 + 5, s1, s2, s3, s4]); rw [← hw4] at hlw4; obtain ⟨hd0, _, _, _, _⟩ := cells5 hlw4.ha; have hf4 : w4.frozen? ⟨w.heap.size, 0, none⟩ = false := frozen_of_row w4 _ _ _ _ hlw4.ha; have HL4 : Hid (LW w.heap.size w [s0 + 5 * c, s1, s2, s3, s4] (cy 0 [s0 + 5, s1, s2, s3, s4]) (w4.setCell ⟨w.heap.size, 0, none⟩ (.int .u64 (s0 + 5 * c)))) := hlw4.setA 0 _; clear hlw4 hw4)
  all_goals (
    obtain ⟨W5, hW5⟩ : ∃ W5, w4.setCell ⟨w.heap.size, 0, none⟩ (.int .u64 (s0 + 5 * c)) = W5 := ⟨_, rfl⟩
    rw [hW5] at HL4 ⊢
    clear hW5 hd0 hf4 hc0 hf0
    go_wp2_with (go_at_call 69; refine (HCB.out _ HL4.out.ha).mono ?_; rintro e w6 ⟨rfl, hw6⟩; have hl6 := HL4.out.rowA (lst a); rw [← hw6, HL.out] at hl6; obtain ⟨hx0, hx1, hx2, hx3, hx4⟩ := cells5 hl6.ha; obtain ⟨_, _, _, _, _, _, hy0, hy1, hy2, hy3, hy4, hz0, hz1, hz2, hz3, hz4⟩ := row5 hl6.hr (by simp); have HL6 : Hid (LW w.heap.size w [x0, x1, x2, x3, x4] (cy 0 [s0 + 5, s1, s2, s3, s4]) w6) := hl6; clear hl6 hw6)
    refine bodyPost_ret (v := .agg (VI .u64 [x0, x1, x2, x3, x4])) ?_ rfl ⟨by rw [HL.out], ((((HL6.out.old.setCell (by simp) _).setCell (by simp) _).setCell (by simp) _).setCell (by simp) _).setCell (by simp) _⟩
    exact results_cell_row (P := Try.prog) (fn := Try.f63) (p := 2) (ty := 64) rfl _ _ (w.heap.size + 1) 64 (VI .u64 [x0, x1, x2, x3, x4]) (0, 0) _ rfl (store5 HL6.out.hr x0 x1 x2 x3 x4) Try.underlying64 rfl infoA5)
end Go.Proofs.Ytgfamcadgahiiaa
