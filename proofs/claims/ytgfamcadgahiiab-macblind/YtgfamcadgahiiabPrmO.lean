import Derived.Test.YtgfamcadgahiiabPrmQ
import Derived.Test.YtgfamcadgahiiabTrC
namespace Go.Proofs.Ytgfamcadgahiiab
set_option linter.unusedSimpArgs false
open Go.ChangeShapes Go.WideShapes Go.ChangeAt Go.RowKit Go.Pin Go.Prm
/-- a call of Op that leaves what Q says, from every world above w -/
structure Opc (rv : Value) (v : Int) (w : World) (Q : World → World → Prop) : Prop where
  call : ∀ W, Below w.heap.size w W → Calls Try.prog 39 #[rv, .int .i64 v] W fun e W' => e = .returned (.tuple #[]) ∧ Q W W'
  keep : ∀ W W', Below w.heap.size w W → Q W W' → Grow (fun k => k < w.heap.size) W W'
/-- what a call that logs one operation leaves -/
def Opd (Q : World → World → Prop) (w w' : World) : Prop :=
  ∃ W W', Below w.heap.size w W ∧ Q W W' ∧ Grow (fun k => w.heap.size ≤ k ∧ k < W.heap.size) W' w'
theorem opc_nil (v : Int) (w : World) : Opc (.pointer none) v w (fun W W' => W' = W) :=
  ⟨fun W _ => rOp_nil v W, fun W W' _ h => by rw [h]; exact ⟨rfl, rfl, rfl, Nat.le_refl _, fun _ _ _ => rfl⟩⟩
theorem Opd.nil {w w' : World} (h : Opd (fun W W' => W' = W) w w') : Below w.heap.size w w' := by
  obtain ⟨W, _, h1, rfl, h2⟩ := h
  exact ⟨h2.os.trans h1.os, h2.tape.trans h1.tape, h2.output.trans h1.output, Nat.le_trans h1.size h2.size, fun k hk => (h2.block k (Nat.lt_of_lt_of_le hk h1.size) (by omega)).trans (h1.block k hk)⟩
theorem opc_rec {B R : Nat} {vs : Value} {l : List (Int × Int)} {w : World} (v : Int) (h : Rec B w R vs l) (hl : l.length ≤ 1000000) : Opc (.pointer (some ⟨R, 0, none⟩)) v w (Logged B R vs l (3, v)) :=
  ⟨fun W hW => rOp_any B R vs l v W (h.below hW) hl, fun W W' _ hq => by
    obtain ⟨vs', _, h2, _⟩ := hq
    exact h2.mono (fun k hk => h.lt k hk)⟩
theorem Opd.rec {B R : Nat} {vs : Value} {l : List (Int × Int)} {x : Int × Int} {w w' : World} (h : Rec B w R vs l) (ho : Opd (Logged B R vs l x) w w') : Logged B R vs l x w w' := by
  obtain ⟨W, W', h1, ⟨vs', h2, h3, h4⟩, h5⟩ := ho
  have hR : R < w.heap.size := h.lt R (.inl rfl)
  have hS : ∀ k, Blk R vs' k → ¬ (w.heap.size ≤ k ∧ k < W.heap.size) := by
    intro k hk
    rcases hk with rfl | hk
    · omega
    · rcases h4 with h4 | ⟨g, h4, hg⟩
      · have := h.lt k (.inr (h4 ▸ hk)); omega
      · rw [h4] at hk; injection hk with hk; omega
  refine ⟨vs', h2.grow h5 hS, ?_, ?_⟩
  · have g1 : Grow (Blk R vs) w W := Grow.of_below h1
    have g2 := g1.trans h3
    exact ⟨h5.os.trans g2.os, h5.tape.trans g2.tape, h5.output.trans g2.output, Nat.le_trans g2.size h5.size, fun k hk hn => (h5.block k (Nat.lt_of_lt_of_le hk g2.size) (by omega)).trans (g2.block k hk hn)⟩
  · rcases h4 with h4 | ⟨g, h4, hg⟩
    · exact .inl h4
    · exact .inr ⟨g, h4, Nat.le_trans h1.size hg⟩
theorem row5 {w : World} {g : Nat} {l : List Int} {T : TypeId} (h : rowAt w g l T) (h5 : l.length = 5) : ∃ x0 x1 x2 x3 x4, Hid (l = [x0, x1, x2, x3, x4]) ∧
    w.cell? ⟨g, 0, none⟩ = some (.int .u64 x0) ∧ w.cell? ⟨g, 1, none⟩ = some (.int .u64 x1) ∧ w.cell? ⟨g, 2, none⟩ = some (.int .u64 x2) ∧ w.cell? ⟨g, 3, none⟩ = some (.int .u64 x3) ∧ w.cell? ⟨g, 4, none⟩ = some (.int .u64 x4) ∧
    w.frozen? ⟨g, 0, none⟩ = false ∧ w.frozen? ⟨g, 1, none⟩ = false ∧ w.frozen? ⟨g, 2, none⟩ = false ∧ w.frozen? ⟨g, 3, none⟩ = false ∧ w.frozen? ⟨g, 4, none⟩ = false := by
  obtain ⟨x0, x1, x2, x3, x4, rfl⟩ := five h5
  exact ⟨x0, x1, x2, x3, x4, rfl, row_cell h (i := 0) (by simp), row_cell h (i := 1) (by simp), row_cell h (i := 2) (by simp), row_cell h (i := 3) (by simp), row_cell h (i := 4) (by simp),
    frozen_of_row w _ _ _ _ h, frozen_of_row w _ _ _ _ h, frozen_of_row w _ _ _ _ h, frozen_of_row w _ _ _ _ h, frozen_of_row w _ _ _ _ h⟩
/-- the last lines of a call whose result is an Element at n + 2 -/
theorem store5 {w : World} {g : Nat} {T : TypeId} (h : rowAt w g (List.replicate 5 0) T) (x0 x1 x2 x3 x4 : Int) :
    rowAt (((((w.setCell ⟨g, 0, none⟩ (.int .u64 x0)).setCell ⟨g, 1, none⟩ (.int .u64 x1)).setCell ⟨g, 2, none⟩ (.int .u64 x2)).setCell ⟨g, 3, none⟩ (.int .u64 x3)).setCell ⟨g, 4, none⟩ (.int .u64 x4)) g [x0, x1, x2, x3, x4] T :=
  row_set (row_set (row_set (row_set (row_set h 0 _) 1 _) 2 _) 3 _) 4 _
theorem Grow.setCell {S : Nat → Prop} {a w : World} (h : Grow S a w) {p : Addr} (hp : S p.block ∨ a.heap.size ≤ p.block) (u : Value) : Grow S a (w.setCell p u) :=
  ⟨h.os, h.tape, h.output, by simpa using h.size, fun k hk hn => by
    rw [heap_setCell_other _ _ _ _ (by rcases hp with hp | hp; exact fun e => hn (by rw [e]; exact hp); omega)]; exact h.block k hk hn⟩
theorem Grow.refl (S : Nat → Prop) (w : World) : Grow S w w := ⟨rfl, rfl, rfl, Nat.le_refl _, fun _ _ _ => rfl⟩
theorem Grow.drew {S : Nat → Prop} {a w : World} (h : Grow S a w) : Grow S a w.drew := ⟨h.os, h.tape, h.output, h.size, h.block⟩
theorem Grow.but {S : Nat → Prop} {a w w' : World} (h : Grow S a w) {T : Nat → Prop} (hb : But T w w') (hT : ∀ k, T k → S k ∨ a.heap.size ≤ k) : Grow S a w' :=
  ⟨hb.os.trans h.os, hb.tape.trans h.tape, hb.output.trans h.output, by rw [hb.size]; exact h.size, fun k hk hn => (hb.block k (fun ht => by rcases hT k ht with h1 | h1; exact hn h1; omega)).trans (h.block k hk hn)⟩
theorem Grow.bel {S : Nat → Prop} {a w w' : World} (h : Grow S a w) (hb : Below w.heap.size w w') : Grow S a w' := h.trans (Grow.of_below hb)
/-- the boxes of Add and Sub -/
structure AW (n : Nat) (W' : World) (x b : List Int) (wr : World) : Prop where
  grow : Grow (fun k => n ≤ k ∧ k < n + 3) W' wr
  sz : n + 3 ≤ wr.heap.size
  ha : rowAt wr n x 69
  hb : rowAt wr (n + 1) b 69
  hr : rowAt wr (n + 2) (List.replicate 5 0) 69
theorem AW.set {n : Nat} {W' wr : World} {x b : List Int} (h : AW n W' x b wr) (i : Nat) (v : Int) : AW n W' (x.set i v) b (wr.setCell ⟨n, i, none⟩ (.int .u64 v)) :=
  ⟨h.grow.setCell (.inl ⟨Nat.le_refl _, by simp⟩) _, by simpa using h.sz, row_set h.ha _ _, row_other h.hb (by simp) _, row_other h.hr (by simp) _⟩
theorem AW.drew {n : Nat} {W' wr : World} {x b : List Int} (h : AW n W' x b wr) : AW n W' x b wr.drew := ⟨h.grow.drew, h.sz, h.ha, h.hb, h.hr⟩
theorem AW.up {n : Nat} {W' wr w2 : World} {x b y : List Int} (h : AW n W' x b wr) (hu : Up n 69 y wr w2) : AW n W' y b w2 :=
  ⟨h.grow.but hu.but (fun k hk => .inl (by omega)), by rw [hu.but.size]; exact h.sz, hu.row, (hu.but.block _ (by omega)).trans h.hb, (hu.but.block _ (by omega)).trans h.hr⟩
theorem alloc3_rows (w : World) (a b : List Int) : rowAt (((w.alloc (.cells (VI .u64 a) 69)).alloc (.cells (VI .u64 b) 69)).alloc (.cells (VI .u64 (List.replicate 5 0)) 69)) w.heap.size a 69 ∧
    rowAt (((w.alloc (.cells (VI .u64 a) 69)).alloc (.cells (VI .u64 b) 69)).alloc (.cells (VI .u64 (List.replicate 5 0)) 69)) (w.heap.size + 1) b 69 ∧
    rowAt (((w.alloc (.cells (VI .u64 a) 69)).alloc (.cells (VI .u64 b) 69)).alloc (.cells (VI .u64 (List.replicate 5 0)) 69)) (w.heap.size + 2) (List.replicate 5 0) 69 ∧
    (((w.alloc (.cells (VI .u64 a) 69)).alloc (.cells (VI .u64 b) 69)).alloc (.cells (VI .u64 (List.replicate 5 0)) 69)).heap.size = w.heap.size + 3 ∧
    Below w.heap.size w (((w.alloc (.cells (VI .u64 a) 69)).alloc (.cells (VI .u64 b) 69)).alloc (.cells (VI .u64 (List.replicate 5 0)) 69)) := by
  refine ⟨?_, ?_, ?_, by simp [size_alloc], (((Below.refl _ _).alloc (Nat.le_refl _) _).alloc (by simp) _).alloc (by simp; omega) _⟩
  all_goals simp only [rowAt, heap_alloc_any, size_alloc]
  · rw [if_neg (by omega), if_neg (by omega), if_pos trivial]
  · rw [if_neg (by omega), if_pos trivial]
  · rw [if_pos trivial]
theorem AW.start {n : Nat} {W W' : World} {a b : List Int} (ha : rowAt W n a 69) (hb : rowAt W (n + 1) b 69) (hr : rowAt W (n + 2) (List.replicate 5 0) 69) (hs : W.heap.size = n + 3) (hg : Grow (fun k => k < n) W W') : AW n W' a b W' :=
  ⟨Grow.refl _ _, by rw [← hs]; exact hg.size, (hg.block _ (by omega) (by omega)).trans ha, (hg.block _ (by omega) (by omega)).trans hb, (hg.block _ (by omega) (by omega)).trans hr⟩
set_option maxRecDepth 100000 in
set_option maxHeartbeats 4000000 in
theorem add_any (rv : Value) (a b : List Int) (ha : Lim a) (hb : Lim b) (w : World) (Q : World → World → Prop) (hq : Opc rv 11 w Q) :
    Calls Try.prog 35 #[rv, .agg (VI .u64 a), .agg (VI .u64 b)] w fun e w' => e = .returned (.agg (VI .u64 (stl (List.zipWith (· + ·) a b)))) ∧ Opd Q w w' := by
  have HA : Hid (Lim a) := ha
  have HB : Hid (Lim b) := hb
  have HQ : Hid (Opc rv 11 w Q) := hq
  clear ha hb hq
  obtain ⟨r1, r2, r3, hs, hbw⟩ := alloc3_rows w a b
  obtain ⟨W, hW⟩ : ∃ W, ((w.alloc (.cells (VI .u64 a) 69)).alloc (.cells (VI .u64 b) 69)).alloc (.cells (VI .u64 (List.replicate 5 0)) 69) = W := ⟨_, rfl⟩
  have hW' : ((w.alloc (.cells (VI .u64 a) 69)).alloc (.cells (VI .u64 b) 69)).alloc (.cells #[.int .u64 0, .int .u64 0, .int .u64 0, .int .u64 0, .int .u64 0] 69) = W := hW
  rw [hW] at r1 r2 r3 hs hbw
  have HS : Hid (W.heap.size = w.heap.size + 3) := hs
  have HBW : Hid (Below w.heap.size w W) := hbw
  have HAW : Hid (∀ W1, Grow (fun k => k < w.heap.size) W W1 → AW w.heap.size W1 a b W1) := fun W1 hg => AW.start r1 r2 r3 hs hg
  clear hW r1 r2 r3 hs hbw
  go_enter Try.func35, Try.ntmps35
  go_wp2_with (go_at_call 39; refine (HQ.out.call _ HBW.out).mono ?_; rintro e W1 ⟨rfl, hQ⟩)
  have HAW1 : Hid (AW w.heap.size W1 a b W1) := HAW.out W1 (HQ.out.keep _ _ HBW.out hQ)
  have HD : Hid (∀ w', Grow (fun k => w.heap.size ≤ k ∧ k < w.heap.size + 3) W1 w' → Opd Q w w') := fun w' hg => ⟨W, W1, HBW.out, hQ, hg.mono (fun k hk => by rw [HS.out]; exact hk)⟩
  clear HAW hQ hW' HQ HBW HS
  clear W
  obtain ⟨zl, zb⟩ := zip_lim HA.out HB.out
  have HZ : Hid (∀ x ∈ List.zipWith (· + ·) a b, 0 ≤ x ∧ x < 1152921504606846976) := zb
  clear zb
  go_loopw [10] (fun i w' => ∃ k : Nat, k ≤ 5 ∧ i = .int .i64 k ∧ AW w.heap.size W1 ((List.zipWith (· + ·) a b).take k ++ a.drop k) b w') (fun i _ => 5 - (intOf i).toNat)
  case atStart => exact ⟨0, Nat.zero_le _, rfl, HAW1.out⟩
  case round =>
    clear HAW1
    obtain ⟨k, hk, rfl, hp⟩ := hrel
    by_cases hlt : k < 5
    · have hka : k < a.length := by rw [HA.out.len]; exact hlt
      have hkb : k < b.length := by rw [HB.out.len]; exact hlt
      have hkz : k < (List.zipWith (· + ·) a b).length := by rw [zl]; exact hlt
      have hca := row_cell hp.ha (i := k) (by simp; omega)
      rw [List.getD_eq_getElem?_getD, get_step _ _ _ hkz hka] at hca
      have hcb := row_cell hp.hb (i := k) hkb
      rw [List.getD_eq_getElem?_getD, List.getElem?_eq_getElem hkb, Option.getD_some] at hcb
      have hfz : wr.frozen? ⟨w.heap.size, k, none⟩ = false := frozen_of_row wr _ _ _ _ hp.ha
      obtain ⟨xa0, xa1⟩ := HA.out.bd _ (List.getElem_mem hka)
      obtain ⟨xb0, xb1⟩ := HB.out.bd _ (List.getElem_mem hkb)
      have hst := hp.set k (a[k] + b[k])
      have hz : (List.zipWith (· + ·) a b)[k] = a[k] + b[k] := List.getElem_zipWith ..
      rw [← hz, set_step _ _ _ hkz hka, hz] at hst
      have HST : Hid (AW w.heap.size W1 ((List.zipWith (· + ·) a b).take (k + 1) ++ a.drop (k + 1)) b (wr.setCell ⟨w.heap.size, k, none⟩ (.int .u64 (a[k] + b[k])))) := hst
      clear hp hst hz
      generalize a[k] = ak at *
      generalize b[k] = bk at *
      go_wp2
      go_region
      go_wp2
      go_roundw
      case rel => exact ⟨k + 1, by omega, by go_num, HST.out.drew⟩
      case measure => simp [intOf]; omega
    · have hk' : k = 5 := by omega
      subst hk'
      rw [List.take_of_length_le (by omega), List.drop_of_length_le (by rw [HA.out.len]; omega), List.append_nil] at hp
      have HP : Hid (AW w.heap.size W1 (List.zipWith (· + ·) a b) b wr) := hp
      clear hp
      go_wp2_with (go_at_call 40; refine (settle_any w.heap.size 69 (List.zipWith (· + ·) a b) zl HZ.out wr HP.out.ha).mono ?_; rintro e w2 ⟨rfl, hU⟩; have hp2 := HP.out.up hU; obtain ⟨x0, x1, x2, x3, x4, hxe, hx0, hx1, hx2, hx3, hx4, _, _, _, _, _⟩ := row5 hp2.ha (stl_lim _ zl HZ.out).1.len; obtain ⟨_, _, _, _, _, _, hy0, hy1, hy2, hy3, hy4, hz0, hz1, hz2, hz3, hz4⟩ := row5 hp2.hr (by simp); have HP2 : Hid (AW w.heap.size W1 (stl (List.zipWith (· + ·) a b)) b w2) := hp2; clear hp2 hU)
      refine bodyPost_ret (v := .agg (VI .u64 [x0, x1, x2, x3, x4])) ?_ rfl ⟨by rw [hxe.out], HD.out _ (((((HP2.out.grow.setCell ?_ _).setCell ?_ _).setCell ?_ _).setCell ?_ _).setCell ?_ _)⟩
      · exact results_cell_row (P := Try.prog) (fn := Try.f35) (p := 6) (ty := 69) rfl _ _ (w.heap.size + 1 + 1) 69 (VI .u64 [x0, x1, x2, x3, x4]) (0, 0) _ rfl (store5 HP2.out.hr x0 x1 x2 x3 x4) Try.underlying69 rfl infoE
      all_goals (left; simp; omega)
end Go.Proofs.Ytgfamcadgahiiab
