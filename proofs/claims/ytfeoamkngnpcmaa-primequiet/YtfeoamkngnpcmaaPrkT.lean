import Derived.Test.YtfeoamkngnpcmaaPrkS6
import Derived.Test.YtfeoamkngnpcmaaPrkS7
import Derived.Test.YtfeoamkngnpcmaaPrkS9
import Derived.Test.YtfeoamkngnpcmaaPrkS10
import Derived.Test.YtfeoamkngnpcmaaPrkS12
import Derived.Test.YtfeoamkngnpcmaaPrkS13
import Derived.Test.YtfeoamkngnpcmaaPrkS14
import Derived.Test.YtfeoamkngnpcmaaPrkS16
import Derived.Test.YtfeoamkngnpcmaaPrkS17
import Derived.Test.YtfeoamkngnpcmaaPrkS18
import Derived.Test.YtfeoamkngnpcmaaPrkS20
import Derived.Test.YtfeoamkngnpcmaaPrkS22
namespace Go.Proofs.Ytfeoamkngnpcmaa
set_option linter.unusedSimpArgs false
set_option linter.unusedVariables false
open Go.ChangeShapes Go.WideShapes Go.ChangeAt Go.RowKit Go.Pin Go.Prm
theorem infoStep (kd a b c : Int) {low row : List Int} (hl : low.length = 16) (hr : row.length = 17) : (Try.prog.info? 41).map (·.size) = some (stepC kd a b c low row).size := by
  rw [show (stepC kd a b c low row).size = 37 by simp [stepC, stepL, hl, hr]]; kernel_rfl
theorem St.stepE {B g : Nat} {S : Nat → Prop} {es : Nat → List Int} {ns : Nat → Nat} {rv : Value} {lr ll : List (Int × Int)} {vs : Value} {w : World} (h : St B g S es ns rv lr ll vs w) {c : Nat} (hc : c < 8) {z : List Int} (hz : Lim z) : St B g S (upd es c z) ns rv lr ll vs (w.setCells g (c * 5) (z.map (Value.int .u64))) := h.put (but_setCells g _ _ w) (h.bn.setE hc hz)
theorem St.stepN {B g : Nat} {S : Nat → Prop} {es : Nat → List Int} {ns : Nat → Nat} {rv : Value} {lr ll : List (Int × Int)} {vs : Value} {w : World} (h : St B g S es ns rv lr ll vs w) {c : Nat} (hc : c < 8) (m : Nat) : St B g S es (upd ns c m) rv lr ll vs (w.setCells g (40 + c * 17) ((bts m).map (Value.int .i64))) := h.put (but_setCells g _ _ w) (h.bn.setN hc m)
theorem Grow.setCells {S : Nat → Prop} {a w : World} (h : Grow S a w) {g : Nat} (hg : S g) (o : Nat) (vs : List Value) : Grow S a (w.setCells g o vs) := h.but (but_setCells g vs o w) (fun k hk => .inl (hk ▸ hg))
theorem Grow.tr2 {S S1 : Nat → Prop} {a b c : World} (h : Grow S a b) (k : Grow S1 b c) (hs : ∀ k, S1 k → S k ∨ a.heap.size ≤ k) : Grow S a c :=
  ⟨k.os.trans h.os, k.tape.trans h.tape, k.output.trans h.output, Nat.le_trans h.size k.size, fun j hj hn => (k.block j (Nat.lt_of_lt_of_le hj h.size) (fun e => by rcases hs j e with h1 | h1; exact hn h1; omega)).trans (h.block j hj hn)⟩
theorem heap_block {V W : World} (h : V.heap = W.heap) (k : Nat) : V.heap[k]? = W.heap[k]? := by rw [h]
theorem range_heap {V W : World} (h : V.heap = W.heap) {b o : Nat} {cs : List Value} (hr : W.rangeAt b o cs) : V.rangeAt b o cs := fun j v hv => (World.cell?_of_block (heap_block h b)).trans (hr j v hv)
theorem range_below {V W : World} (h : Below W.heap.size W V) {b o : Nat} {cs : List Value} (hb : b < W.heap.size) (hr : W.rangeAt b o cs) : V.rangeAt b o cs := fun j v hv => (World.cell?_of_block (h.block b hb)).trans (hr j v hv)
set_option maxRecDepth 100000 in
set_option maxHeartbeats 20000000 in
theorem step_any (B g : Nat) (S : Nat → Prop) (es : Nat → List Int) (ns : Nat → Nat) (rv : Value) (l : List (Int × Int)) (vs : Value) (kd xa xb xc : Int) (low row : List Int) (hlow : Key16 low) (hrow : Key17 row) (w : World)
    (h : St B g S es ns rv l l vs w) (hnum : ∀ i, i < 8 → num (es i) = ns i) (hl : l.length ≤ 100000) :
    Calls Try.prog 10 #[.pointer (some ⟨g, 0, none⟩), .agg (stepC kd xa xb xc low row)] w fun e w' => e = .returned (.bool true) ∧ Stepped B g S rv (nsx ns kd xa xb xc low row) (lgx l kd) w w' := by
  have hbx : Below w.heap.size w (w.alloc (.cells (stepC kd xa xb xc low row) 41)) := (Below.refl _ _).alloc (Nat.le_refl _) _
  have hrx : (w.alloc (.cells (stepC kd xa xb xc low row) 41)).heap[w.heap.size]? = some (.cells (stepC kd xa xb xc low row) 41 (0, 0)) := heap_alloc_new w _
  obtain ⟨q, hq⟩ : ∃ q, w.heap.size = q := ⟨_, rfl⟩
  obtain ⟨W0, hW0⟩ : ∃ W, w.alloc (.cells (stepC kd xa xb xc low row) 41) = W := ⟨_, rfl⟩
  have hs0 : W0.heap.size = q + 1 := by rw [← hW0]; simp [hq]
  rw [hW0] at hbx
  rw [hW0, hq] at hrx
  have HBX : Hid (Below w.heap.size w W0) := hbx
  have HRX : Hid (W0.heap[q]? = some (.cells (stepC kd xa xb xc low row) 41 (0, 0))) := hrx
  have HST : Hid (St B g S es ns rv l l vs W0) := h.below hbx
  have HNUM : Hid (∀ i, i < 8 → num (es i) = ns i) := hnum
  have HLOW : Hid (Key16 low) := hlow
  have HROW : Hid (Key17 row) := hrow
  have HSZ : Hid (W0.heap.size = q + 1) := hs0
  have HSQ : Hid (∀ k, S k → k < w.heap.size) := fun k hk => (h.hS k hk).2
  obtain ⟨c0, c1, c2, c3, _, _⟩ := step_box hlow.len hrx
  have HN1 : Hid (∀ kd', kd' = kd → nsx ns kd xa xb xc low row = nsx ns kd' xa xb xc low row) := fun _ e => by rw [e]
  have hi8 := pl_lt xa
  have hk8 := pl_lt xb
  have hc8 := pl_lt xc
  have HNSX : Hid (nsx ns kd xa xb xc low row = if kd = 1 then upd ns (pl xc) (nb (clp low ++ [0]) % P) else if kd = 2 then upd ns (pl xc) (nb row % P) else if kd = 3 then upd ns (pl xc) ((ns (pl xa) + ns (pl xb)) % P) else if kd = 4 then upd ns (pl xc) (ns (pl xa) * ns (pl xb) % P) else ns) := rfl
  have HLGX : Hid (lgx l kd = if kd = 3 then l ++ [(3, 11)] else if kd = 4 then l ++ [(3, 12)] else l) := rfl
  have HPA : Hid (∀ W, Calls Try.prog 19 #[.int .i64 xa] W fun e w' => e = .returned (.int .i64 ((pl xa : Nat) : Int)) ∧ w' = W) := place_is xa
  have HPB : Hid (∀ W, Calls Try.prog 19 #[.int .i64 xb] W fun e w' => e = .returned (.int .i64 ((pl xb : Nat) : Int)) ∧ w' = W) := place_is xb
  have HPC : Hid (∀ W, Calls Try.prog 19 #[.int .i64 xc] W fun e w' => e = .returned (.int .i64 ((pl xc : Nat) : Int)) ∧ w' = W) := place_is xc
  clear hbx hrx hs0 h hnum hlow hrow HN1
  generalize pl xa = i at *
  generalize pl xb = k at *
  generalize pl xc = c at *
  generalize nsx ns kd xa xb xc low row = NSX at *
  generalize lgx l kd = LGX at *
  obtain ⟨XX, hXX⟩ : ∃ XX, stepC kd xa xb xc low row = XX := ⟨_, rfl⟩
  rw [hXX] at HRX hW0 ⊢
  have HXX : Hid (stepC kd xa xb xc low row = XX) := hXX
  clear hXX
  go_enter Try.func10, Try.ntmps10
  go_wp2_with (fail)
  refine (HPA.out _).mono ?_
  rintro e w1 ⟨rfl, hw1⟩
  obtain rfl : W0 = w1 := hw1.symm
  clear hw1
  go_wp2_with (fail)
  refine (HPB.out _).mono ?_
  rintro e w1 ⟨rfl, hw1⟩
  obtain rfl : W0 = w1 := hw1.symm
  clear hw1
  go_wp2_with (fail)
  refine (HPC.out _).mono ?_
  rintro e w1 ⟨rfl, hw1⟩
  obtain rfl : W0 = w1 := hw1.symm
  clear hw1
  clear HPA HPB HPC
  have hqg : g < q := by rw [← hq]; exact HSQ.out g HST.out.hg
  by_cases h1 : kd = 1
  · subst h1
    obtain ⟨z0, z1, z2, z3, z4, lz, nz, CZ⟩ := clamp_f HLOW.out
    have LZ : Hid (Lim [z0, z1, z2, z3, z4]) := lz
    have NZ : Hid (num [z0, z1, z2, z3, z4] = nb (clp low ++ [0]) % P) := nz
    clear lz nz
    have HX : Hid (∀ V9 : World, V9.heap = W0.heap → V9.rangeAt q 4 (low.map (Value.int .u8))) := fun V9 hV => range_heap hV (step_box HLOW.out.len (by have := HRX.out; rw [← HXX.out] at this; exact this)).2.2.2.2.1
    have LX : Hid (low.length = 16) := HLOW.out.len
    go_wp2_with (fail)
    refine wp_as (c' := rgS6) (by kernel_rfl) ?_
    refine step_r6 (rv := rv) (Qr := fun w' => Below W0.drew.heap.size W0.drew w') hi8 hk8 hc8 HX LX (CZ.out W0.drew) (fun w2 hb => (HST.out.drew.below hb).bn.thereE hc8) (fun _ _ d _ _ h => by cases d <;> exact h) ?_
    intro w2 hb2
    have HS3 : Hid (St B g S (upd es c [z0, z1, z2, z3, z4]) ns rv l l vs (w2.setCells g (c * 5) ([z0, z1, z2, z3, z4].map (Value.int .u64)))) := (HST.out.drew.below hb2).stepE hc8 LZ.out
    have HG3 : Hid (Grow S w (w2.setCells g (c * 5) ([z0, z1, z2, z3, z4].map (Value.int .u64)))) := ((Grow.of_below HBX.out).bel ((Below.refl _ _).drew.trans hb2)).setCells HST.out.hg _ _
    have HR3 : Hid ((w2.setCells g (c * 5) ([z0, z1, z2, z3, z4].map (Value.int .u64))).heap[q]? = some (.cells XX 41 (0, 0))) := (heap_setCells_other g _ _ _ q (by omega)).trans ((hb2.block q (by have := HSZ.out; show q < W0.heap.size; omega)).trans HRX.out)
    obtain ⟨W3, hW3⟩ : ∃ W, w2.setCells g (c * 5) ([z0, z1, z2, z3, z4].map (Value.int .u64)) = W := ⟨_, rfl⟩
    rw [hW3] at HS3 HG3 HR3 ⊢
    clear hW3 hb2 HX CZ
    have HX : Hid (∀ V9 : World, V9.heap = W3.heap → V9.rangeAt q 4 (low.map (Value.int .u8))) := fun V9 hV => range_heap hV (step_box HLOW.out.len (by have := HR3.out; rw [← HXX.out] at this; exact this)).2.2.2.2.1
    have LZ2 : Hid ((bts (nb (clp low ++ [0]) % P)).length = 17) := bts_len _
    go_wp2_with (fail)
    refine wp_as (c' := rgS7) (by kernel_rfl) ?_
    refine step_r7 (rv := rv) (zz9 := 0) (Qr := fun w' => Below W3.drew.heap.size W3.drew w') hi8 hk8 hc8 HX LX LZ2 (rclamp_any low HLOW.out W3.drew) (fun w2 hb => (HS3.out.drew.below hb).bn.thereN hc8) (fun _ _ d _ _ h => by cases d <;> exact h) ?_
    intro w4 hb4
    have HS5 : Hid (St B g S (upd es c [z0, z1, z2, z3, z4]) (upd ns c (nb (clp low ++ [0]) % P)) rv l l vs (w4.setCells g (40 + c * 17) ((bts (nb (clp low ++ [0]) % P)).map (Value.int .i64)))) := (HS3.out.drew.below hb4).stepN hc8 _
    have HG5 : Hid (Grow S w (w4.setCells g (40 + c * 17) ((bts (nb (clp low ++ [0]) % P)).map (Value.int .i64)))) := (HG3.out.bel ((Below.refl _ _).drew.trans hb4)).setCells HST.out.hg _ _
    obtain ⟨W5, hW5⟩ : ∃ W, w4.setCells g (40 + c * 17) ((bts (nb (clp low ++ [0]) % P)).map (Value.int .i64)) = W := ⟨_, rfl⟩
    rw [hW5] at HS5 HG5 ⊢
    clear hW5 hb4
    have HFN : Hid (NSX = upd ns c (nb (clp low ++ [0]) % P)) := by
      have e : NSX = upd ns c (nb (clp low ++ [0]) % P) := by have e := HNSX.out; simpa using e
      exact e
    have HFL : Hid (LGX = l) := by
      have e : LGX = l := by have e := HLGX.out; simpa using e
      exact e
    go_wp2
    go_ret
    exact ⟨rfl, S, upd es c [z0, z1, z2, z3, z4], vs, by rw [HFN.out, HFL.out]; exact HS5.out, by rw [HFN.out]; exact upd_num HNUM.out c NZ.out, HG5.out, fun k hk => .inl hk⟩
  by_cases h2 : kd = 2
  · subst h2
    clear h1
    obtain ⟨z0, z1, z2, z3, z4, lz, nz, CZ⟩ := block_f HROW.out
    have LZ : Hid (Lim [z0, z1, z2, z3, z4]) := lz
    have NZ : Hid (num [z0, z1, z2, z3, z4] = nb row % P) := nz
    clear lz nz
    have HX : Hid (∀ V9 : World, V9.heap = W0.heap → V9.rangeAt q 20 (row.map (Value.int .u8))) := fun V9 hV => range_heap hV (step_box HLOW.out.len (by have := HRX.out; rw [← HXX.out] at this; exact this)).2.2.2.2.2
    have LX : Hid (row.length = 17) := HROW.out.len
    go_wp2_with (fail)
    refine wp_as (c' := rgS9) (by kernel_rfl) ?_
    refine step_r9 (rv := rv) (Qr := fun w' => Below W0.drew.heap.size W0.drew w') hi8 hk8 hc8 HX LX (CZ.out W0.drew) (fun w2 hb => (HST.out.drew.below hb).bn.thereE hc8) (fun _ _ d _ _ h => by cases d <;> exact h) ?_
    intro w2 hb2
    have HS3 : Hid (St B g S (upd es c [z0, z1, z2, z3, z4]) ns rv l l vs (w2.setCells g (c * 5) ([z0, z1, z2, z3, z4].map (Value.int .u64)))) := (HST.out.drew.below hb2).stepE hc8 LZ.out
    have HG3 : Hid (Grow S w (w2.setCells g (c * 5) ([z0, z1, z2, z3, z4].map (Value.int .u64)))) := ((Grow.of_below HBX.out).bel ((Below.refl _ _).drew.trans hb2)).setCells HST.out.hg _ _
    have HR3 : Hid ((w2.setCells g (c * 5) ([z0, z1, z2, z3, z4].map (Value.int .u64))).heap[q]? = some (.cells XX 41 (0, 0))) := (heap_setCells_other g _ _ _ q (by omega)).trans ((hb2.block q (by have := HSZ.out; show q < W0.heap.size; omega)).trans HRX.out)
    obtain ⟨W3, hW3⟩ : ∃ W, w2.setCells g (c * 5) ([z0, z1, z2, z3, z4].map (Value.int .u64)) = W := ⟨_, rfl⟩
    rw [hW3] at HS3 HG3 HR3 ⊢
    clear hW3 hb2 HX CZ
    have HX : Hid (∀ V9 : World, V9.heap = W3.heap → V9.rangeAt q 20 (row.map (Value.int .u8))) := fun V9 hV => range_heap hV (step_box HLOW.out.len (by have := HR3.out; rw [← HXX.out] at this; exact this)).2.2.2.2.2
    have LZ2 : Hid ((bts (nb row % P)).length = 17) := bts_len _
    go_wp2_with (fail)
    refine wp_as (c' := rgS10) (by kernel_rfl) ?_
    refine step_r10 (rv := rv) (zz9 := 0) (Qr := fun w' => Below W3.drew.heap.size W3.drew w') hi8 hk8 hc8 HX LX LZ2 (rblock_any row HROW.out W3.drew) (fun w2 hb => (HS3.out.drew.below hb).bn.thereN hc8) (fun _ _ d _ _ h => by cases d <;> exact h) ?_
    intro w4 hb4
    have HS5 : Hid (St B g S (upd es c [z0, z1, z2, z3, z4]) (upd ns c (nb row % P)) rv l l vs (w4.setCells g (40 + c * 17) ((bts (nb row % P)).map (Value.int .i64)))) := (HS3.out.drew.below hb4).stepN hc8 _
    have HG5 : Hid (Grow S w (w4.setCells g (40 + c * 17) ((bts (nb row % P)).map (Value.int .i64)))) := (HG3.out.bel ((Below.refl _ _).drew.trans hb4)).setCells HST.out.hg _ _
    obtain ⟨W5, hW5⟩ : ∃ W, w4.setCells g (40 + c * 17) ((bts (nb row % P)).map (Value.int .i64)) = W := ⟨_, rfl⟩
    rw [hW5] at HS5 HG5 ⊢
    clear hW5 hb4
    have HFN : Hid (NSX = upd ns c (nb row % P)) := by
      have e : NSX = upd ns c (nb row % P) := by have e := HNSX.out; simpa using e
      exact e
    have HFL : Hid (LGX = l) := by
      have e : LGX = l := by have e := HLGX.out; simpa using e
      exact e
    go_wp2
    go_ret
    exact ⟨rfl, S, upd es c [z0, z1, z2, z3, z4], vs, by rw [HFN.out, HFL.out]; exact HS5.out, by rw [HFN.out]; exact upd_num HNUM.out c NZ.out, HG5.out, fun k hk => .inl hk⟩
  by_cases h3 : kd = 3
  · subst h3
    clear h1 h2
    obtain ⟨x0, x1, x2, x3, x4, hx⟩ := five (HST.out.bn.lim i hi8).len
    obtain ⟨y0, y1, y2, y3, y4, hy⟩ := five (HST.out.bn.lim k hk8).len
    have lx := HST.out.bn.lim i hi8
    have ly := HST.out.bn.lim k hk8
    rw [hx] at lx
    rw [hy] at ly
    have nx := HNUM.out i hi8
    have ny := HNUM.out k hk8
    rw [hx] at nx
    rw [hy] at ny
    obtain ⟨z0, z1, z2, z3, z4, hz⟩ := five (add_lim lx ly).len
    have LZ : Hid (Lim [z0, z1, z2, z3, z4]) := hz ▸ add_lim lx ly
    have NZ : Hid (num [z0, z1, z2, z3, z4] = (ns i + ns k) % P) := by have := num_add lx ly; rw [nx, ny, hz] at this; exact this
    obtain ⟨Q1, hq1, hq2⟩ := HST.out.drew.op 11 (by omega)
    have HC : Hid (Calls Try.prog 15 #[rv, .agg #[.int .u64 x0, .int .u64 x1, .int .u64 x2, .int .u64 x3, .int .u64 x4], .agg #[.int .u64 y0, .int .u64 y1, .int .u64 y2, .int .u64 y3, .int .u64 y4]] W0.drew fun e w' => e = .returned (.agg #[.int .u64 z0, .int .u64 z1, .int .u64 z2, .int .u64 z3, .int .u64 z4]) ∧ ∃ S', St B g S' es ns rv (l ++ [(3, 11)]) l vs w' ∧ Grow S W0.drew w' ∧ ∀ k, S' k → S k ∨ W0.drew.heap.size ≤ k) := by
      have := (add_any rv [x0, x1, x2, x3, x4] [y0, y1, y2, y3, y4] lx ly W0.drew Q1 hq1).mono fun e w' hh => (⟨hh.1, hq2 w' hh.2⟩ : _ ∧ ∃ S', St B g S' es ns rv (l ++ [(3, 11)]) l vs w' ∧ Grow S W0.drew w' ∧ ∀ k, S' k → S k ∨ W0.drew.heap.size ≤ k)
      rw [hz] at this
      exact this
    have cx0 : W0.cell? ⟨g, i * 5, none⟩ = some (.int .u64 x0) := by have := HST.out.bn.e i hi8 0 (by decide); rw [hx] at this; exact this
    have cx1 : W0.cell? ⟨g, i * 5 + 1, none⟩ = some (.int .u64 x1) := by have := HST.out.bn.e i hi8 1 (by decide); rw [hx] at this; exact this
    have cx2 : W0.cell? ⟨g, i * 5 + 2, none⟩ = some (.int .u64 x2) := by have := HST.out.bn.e i hi8 2 (by decide); rw [hx] at this; exact this
    have cx3 : W0.cell? ⟨g, i * 5 + 3, none⟩ = some (.int .u64 x3) := by have := HST.out.bn.e i hi8 3 (by decide); rw [hx] at this; exact this
    have cx4 : W0.cell? ⟨g, i * 5 + 4, none⟩ = some (.int .u64 x4) := by have := HST.out.bn.e i hi8 4 (by decide); rw [hx] at this; exact this
    have cy0 : W0.cell? ⟨g, k * 5, none⟩ = some (.int .u64 y0) := by have := HST.out.bn.e k hk8 0 (by decide); rw [hy] at this; exact this
    have cy1 : W0.cell? ⟨g, k * 5 + 1, none⟩ = some (.int .u64 y1) := by have := HST.out.bn.e k hk8 1 (by decide); rw [hy] at this; exact this
    have cy2 : W0.cell? ⟨g, k * 5 + 2, none⟩ = some (.int .u64 y2) := by have := HST.out.bn.e k hk8 2 (by decide); rw [hy] at this; exact this
    have cy3 : W0.cell? ⟨g, k * 5 + 3, none⟩ = some (.int .u64 y3) := by have := HST.out.bn.e k hk8 3 (by decide); rw [hy] at this; exact this
    have cy4 : W0.cell? ⟨g, k * 5 + 4, none⟩ = some (.int .u64 y4) := by have := HST.out.bn.e k hk8 4 (by decide); rw [hy] at this; exact this
    have CXY : Hid (W0.cell? ⟨g, i * 5, none⟩ = some (.int .u64 x0) ∧ W0.cell? ⟨g, i * 5 + 1, none⟩ = some (.int .u64 x1) ∧ W0.cell? ⟨g, i * 5 + 2, none⟩ = some (.int .u64 x2) ∧ W0.cell? ⟨g, i * 5 + 3, none⟩ = some (.int .u64 x3) ∧ W0.cell? ⟨g, i * 5 + 4, none⟩ = some (.int .u64 x4) ∧ W0.cell? ⟨g, k * 5, none⟩ = some (.int .u64 y0) ∧ W0.cell? ⟨g, k * 5 + 1, none⟩ = some (.int .u64 y1) ∧ W0.cell? ⟨g, k * 5 + 2, none⟩ = some (.int .u64 y2) ∧ W0.cell? ⟨g, k * 5 + 3, none⟩ = some (.int .u64 y3) ∧ W0.cell? ⟨g, k * 5 + 4, none⟩ = some (.int .u64 y4)) := ⟨cx0, cx1, cx2, cx3, cx4, cy0, cy1, cy2, cy3, cy4⟩
    clear cx0 cx1 cx2 cx3 cx4 cy0 cy1 cy2 cy3 cy4
    have CR : Hid (W0.cell? ⟨g, 176, none⟩ = some rv) := HST.out.bn.r
    have HNI : Hid (ns i < P) := by have := num_lt [x0, x1, x2, x3, x4]; rw [nx] at this; exact this
    have HNK : Hid (ns k < P) := by have := num_lt [y0, y1, y2, y3, y4]; rw [ny] at this; exact this
    clear hx hy hz lx ly nx ny hq1 hq2
    go_wp2_with (fail)
    refine wp_as (c' := rgS12) (by kernel_rfl) ?_
    obtain ⟨cx0, cx1, cx2, cx3, cx4, cy0, cy1, cy2, cy3, cy4⟩ := CXY.out
    refine step_r12 (ZZ9 := []) (Qr := fun w' => ∃ S', St B g S' es ns rv (l ++ [(3, 11)]) l vs w' ∧ Grow S W0.drew w' ∧ ∀ k, S' k → S k ∨ W0.drew.heap.size ≤ k) hi8 hk8 hc8 CR.out cx0 cx1 cx2 cx3 cx4 cy0 cy1 cy2 cy3 cy4 HC (fun w2 hb => by obtain ⟨_, h1, _⟩ := hb; exact h1.bn.thereE hc8) (fun _ _ d _ _ h => by cases d <;> exact h) ?_
    rintro w2 ⟨S1, hS1, hG1, hk1⟩
    have HS3 : Hid (St B g S1 (upd es c [z0, z1, z2, z3, z4]) ns rv (l ++ [(3, 11)]) l vs (w2.setCells g (c * 5) ([z0, z1, z2, z3, z4].map (Value.int .u64)))) := hS1.stepE hc8 LZ.out
    have HG3 : Hid (Grow S w (w2.setCells g (c * 5) ([z0, z1, z2, z3, z4].map (Value.int .u64)))) := ((Grow.of_below ((Below.refl _ _).trans (HBX.out.drew))).trans hG1).setCells HST.out.hg _ _
    have HK3 : Hid (∀ k, S1 k → S k ∨ w.heap.size ≤ k) := fun k hk => by rcases hk1 k hk with h | h; exact .inl h; exact .inr (Nat.le_trans HBX.out.size h)
    obtain ⟨W3, hW3⟩ : ∃ W, w2.setCells g (c * 5) ([z0, z1, z2, z3, z4].map (Value.int .u64)) = W := ⟨_, rfl⟩
    rw [hW3] at HS3 HG3 ⊢
    clear hW3 hS1 hG1 hk1 HC CXY CR cx0 cx1 cx2 cx3 cx4 cy0 cy1 cy2 cy3 cy4
    have HX : Hid (∀ V9 : World, V9.heap = W3.heap → V9.rangeAt g (40 + i * 17) ((bts (ns i)).map (Value.int .i64))) := fun V9 hV => range_heap hV (HS3.out.bn.rangeN hi8)
    have HY : Hid (∀ V9 : World, V9.heap = W3.heap → V9.rangeAt g (40 + k * 17) ((bts (ns k)).map (Value.int .i64))) := fun V9 hV => range_heap hV (HS3.out.bn.rangeN hk8)
    go_wp2_with (fail)
    refine wp_as (c' := rgS13) (by kernel_rfl) ?_
    refine step_r13 (rv := rv) (zz9 := 0) (Qr := fun w' => Below W3.drew.heap.size W3.drew w') hi8 hk8 hc8 HX (bts_len _) HY (bts_len _) (bts_len _) (radd_any (ns i) (ns k) HNI.out HNK.out W3.drew) (fun w2 hb => (HS3.out.drew.below hb).bn.thereN hc8) (fun _ _ d _ _ h => by cases d <;> exact h) ?_
    intro w4 hb4
    have HS5 : Hid (St B g S1 (upd es c [z0, z1, z2, z3, z4]) (upd ns c ((ns i + ns k) % P)) rv (l ++ [(3, 11)]) l vs (w4.setCells g (40 + c * 17) ((bts ((ns i + ns k) % P)).map (Value.int .i64)))) := (HS3.out.drew.below hb4).stepN hc8 _
    have HG5 : Hid (Grow S w (w4.setCells g (40 + c * 17) ((bts ((ns i + ns k) % P)).map (Value.int .i64)))) := (HG3.out.bel ((Below.refl _ _).drew.trans hb4)).setCells HST.out.hg _ _
    obtain ⟨W5, hW5⟩ : ∃ W, w4.setCells g (40 + c * 17) ((bts ((ns i + ns k) % P)).map (Value.int .i64)) = W := ⟨_, rfl⟩
    rw [hW5] at HS5 HG5 ⊢
    clear hW5 hb4 HX HY
    go_wp2_with (fail)
    refine wp_as (c' := rgS14) (by kernel_rfl) ?_
    refine step_r14 HS5 (by omega) (fun _ _ d _ _ h => by cases d <;> exact h) ?_
    intro b9 vs' S2 W6 hS6 hG6 hk6
    have HS6 : Hid (St B g S2 (upd es c [z0, z1, z2, z3, z4]) (upd ns c ((ns i + ns k) % P)) rv (l ++ [(3, 11)]) (l ++ [(3, 11)]) vs' W6) := hS6
    have HG6 : Hid (Grow S w W6) := HG5.out.tr2 hG6 HK3.out
    have HK6 : Hid (∀ k, S2 k → S k ∨ w.heap.size ≤ k) := fun k hk => by rcases hk6 k hk with h | h; exact HK3.out k h; exact .inr (Nat.le_trans HG5.out.size h)
    clear hS6 hG6 hk6
    have HFN : Hid (NSX = upd ns c ((ns i + ns k) % P)) := by
      have e : NSX = upd ns c ((ns i + ns k) % P) := by have e := HNSX.out; simpa using e
      exact e
    have HFL : Hid (LGX = l ++ [(3, 11)]) := by
      have e : LGX = l ++ [(3, 11)] := by have e := HLGX.out; simpa using e
      exact e
    go_wp2
    go_ret
    exact ⟨rfl, S2, upd es c [z0, z1, z2, z3, z4], vs', by rw [HFN.out, HFL.out]; exact HS6.out, by rw [HFN.out]; exact upd_num HNUM.out c NZ.out, HG6.out, HK6.out⟩
  by_cases h4 : kd = 4
  · subst h4
    clear h1 h2 h3
    obtain ⟨x0, x1, x2, x3, x4, hx⟩ := five (HST.out.bn.lim i hi8).len
    obtain ⟨y0, y1, y2, y3, y4, hy⟩ := five (HST.out.bn.lim k hk8).len
    have lx := HST.out.bn.lim i hi8
    have ly := HST.out.bn.lim k hk8
    rw [hx] at lx
    rw [hy] at ly
    have nx := HNUM.out i hi8
    have ny := HNUM.out k hk8
    rw [hx] at nx
    rw [hy] at ny
    obtain ⟨z0, z1, z2, z3, z4, hz⟩ := five (prod_lim lx ly).len
    have LZ : Hid (Lim [z0, z1, z2, z3, z4]) := hz ▸ prod_lim lx ly
    have NZ : Hid (num [z0, z1, z2, z3, z4] = ns i * ns k % P) := by have := num_prod lx ly; rw [nx, ny, hz] at this; exact this
    obtain ⟨Q1, hq1, hq2⟩ := HST.out.drew.op 12 (by omega)
    have HC : Hid (Calls Try.prog 16 #[rv, .agg #[.int .u64 x0, .int .u64 x1, .int .u64 x2, .int .u64 x3, .int .u64 x4], .agg #[.int .u64 y0, .int .u64 y1, .int .u64 y2, .int .u64 y3, .int .u64 y4]] W0.drew fun e w' => e = .returned (.agg #[.int .u64 z0, .int .u64 z1, .int .u64 z2, .int .u64 z3, .int .u64 z4]) ∧ ∃ S', St B g S' es ns rv (l ++ [(3, 12)]) l vs w' ∧ Grow S W0.drew w' ∧ ∀ k, S' k → S k ∨ W0.drew.heap.size ≤ k) := by
      have := (mul_any rv [x0, x1, x2, x3, x4] [y0, y1, y2, y3, y4] lx ly W0.drew Q1 hq1).mono fun e w' hh => (⟨hh.1, hq2 w' hh.2⟩ : _ ∧ ∃ S', St B g S' es ns rv (l ++ [(3, 12)]) l vs w' ∧ Grow S W0.drew w' ∧ ∀ k, S' k → S k ∨ W0.drew.heap.size ≤ k)
      rw [hz] at this
      exact this
    have cx0 : W0.cell? ⟨g, i * 5, none⟩ = some (.int .u64 x0) := by have := HST.out.bn.e i hi8 0 (by decide); rw [hx] at this; exact this
    have cx1 : W0.cell? ⟨g, i * 5 + 1, none⟩ = some (.int .u64 x1) := by have := HST.out.bn.e i hi8 1 (by decide); rw [hx] at this; exact this
    have cx2 : W0.cell? ⟨g, i * 5 + 2, none⟩ = some (.int .u64 x2) := by have := HST.out.bn.e i hi8 2 (by decide); rw [hx] at this; exact this
    have cx3 : W0.cell? ⟨g, i * 5 + 3, none⟩ = some (.int .u64 x3) := by have := HST.out.bn.e i hi8 3 (by decide); rw [hx] at this; exact this
    have cx4 : W0.cell? ⟨g, i * 5 + 4, none⟩ = some (.int .u64 x4) := by have := HST.out.bn.e i hi8 4 (by decide); rw [hx] at this; exact this
    have cy0 : W0.cell? ⟨g, k * 5, none⟩ = some (.int .u64 y0) := by have := HST.out.bn.e k hk8 0 (by decide); rw [hy] at this; exact this
    have cy1 : W0.cell? ⟨g, k * 5 + 1, none⟩ = some (.int .u64 y1) := by have := HST.out.bn.e k hk8 1 (by decide); rw [hy] at this; exact this
    have cy2 : W0.cell? ⟨g, k * 5 + 2, none⟩ = some (.int .u64 y2) := by have := HST.out.bn.e k hk8 2 (by decide); rw [hy] at this; exact this
    have cy3 : W0.cell? ⟨g, k * 5 + 3, none⟩ = some (.int .u64 y3) := by have := HST.out.bn.e k hk8 3 (by decide); rw [hy] at this; exact this
    have cy4 : W0.cell? ⟨g, k * 5 + 4, none⟩ = some (.int .u64 y4) := by have := HST.out.bn.e k hk8 4 (by decide); rw [hy] at this; exact this
    have CXY : Hid (W0.cell? ⟨g, i * 5, none⟩ = some (.int .u64 x0) ∧ W0.cell? ⟨g, i * 5 + 1, none⟩ = some (.int .u64 x1) ∧ W0.cell? ⟨g, i * 5 + 2, none⟩ = some (.int .u64 x2) ∧ W0.cell? ⟨g, i * 5 + 3, none⟩ = some (.int .u64 x3) ∧ W0.cell? ⟨g, i * 5 + 4, none⟩ = some (.int .u64 x4) ∧ W0.cell? ⟨g, k * 5, none⟩ = some (.int .u64 y0) ∧ W0.cell? ⟨g, k * 5 + 1, none⟩ = some (.int .u64 y1) ∧ W0.cell? ⟨g, k * 5 + 2, none⟩ = some (.int .u64 y2) ∧ W0.cell? ⟨g, k * 5 + 3, none⟩ = some (.int .u64 y3) ∧ W0.cell? ⟨g, k * 5 + 4, none⟩ = some (.int .u64 y4)) := ⟨cx0, cx1, cx2, cx3, cx4, cy0, cy1, cy2, cy3, cy4⟩
    clear cx0 cx1 cx2 cx3 cx4 cy0 cy1 cy2 cy3 cy4
    have CR : Hid (W0.cell? ⟨g, 176, none⟩ = some rv) := HST.out.bn.r
    have HNI : Hid (ns i < P) := by have := num_lt [x0, x1, x2, x3, x4]; rw [nx] at this; exact this
    have HNK : Hid (ns k < P) := by have := num_lt [y0, y1, y2, y3, y4]; rw [ny] at this; exact this
    clear hx hy hz lx ly nx ny hq1 hq2
    go_wp2_with (fail)
    refine wp_as (c' := rgS16) (by kernel_rfl) ?_
    obtain ⟨cx0, cx1, cx2, cx3, cx4, cy0, cy1, cy2, cy3, cy4⟩ := CXY.out
    refine step_r16 (ZZ9 := []) (Qr := fun w' => ∃ S', St B g S' es ns rv (l ++ [(3, 12)]) l vs w' ∧ Grow S W0.drew w' ∧ ∀ k, S' k → S k ∨ W0.drew.heap.size ≤ k) hi8 hk8 hc8 CR.out cx0 cx1 cx2 cx3 cx4 cy0 cy1 cy2 cy3 cy4 HC (fun w2 hb => by obtain ⟨_, h1, _⟩ := hb; exact h1.bn.thereE hc8) (fun _ _ d _ _ h => by cases d <;> exact h) ?_
    rintro w2 ⟨S1, hS1, hG1, hk1⟩
    have HS3 : Hid (St B g S1 (upd es c [z0, z1, z2, z3, z4]) ns rv (l ++ [(3, 12)]) l vs (w2.setCells g (c * 5) ([z0, z1, z2, z3, z4].map (Value.int .u64)))) := hS1.stepE hc8 LZ.out
    have HG3 : Hid (Grow S w (w2.setCells g (c * 5) ([z0, z1, z2, z3, z4].map (Value.int .u64)))) := ((Grow.of_below ((Below.refl _ _).trans (HBX.out.drew))).trans hG1).setCells HST.out.hg _ _
    have HK3 : Hid (∀ k, S1 k → S k ∨ w.heap.size ≤ k) := fun k hk => by rcases hk1 k hk with h | h; exact .inl h; exact .inr (Nat.le_trans HBX.out.size h)
    obtain ⟨W3, hW3⟩ : ∃ W, w2.setCells g (c * 5) ([z0, z1, z2, z3, z4].map (Value.int .u64)) = W := ⟨_, rfl⟩
    rw [hW3] at HS3 HG3 ⊢
    clear hW3 hS1 hG1 hk1 HC CXY CR cx0 cx1 cx2 cx3 cx4 cy0 cy1 cy2 cy3 cy4
    have HX : Hid (∀ V9 : World, V9.heap = W3.heap → V9.rangeAt g (40 + i * 17) ((bts (ns i)).map (Value.int .i64))) := fun V9 hV => range_heap hV (HS3.out.bn.rangeN hi8)
    have HY : Hid (∀ V9 : World, V9.heap = W3.heap → V9.rangeAt g (40 + k * 17) ((bts (ns k)).map (Value.int .i64))) := fun V9 hV => range_heap hV (HS3.out.bn.rangeN hk8)
    go_wp2_with (fail)
    refine wp_as (c' := rgS17) (by kernel_rfl) ?_
    refine step_r17 (rv := rv) (zz9 := 0) (Qr := fun w' => Below W3.drew.heap.size W3.drew w') hi8 hk8 hc8 HX (bts_len _) HY (bts_len _) (bts_len _) (rmul_any (ns i) (ns k) HNI.out HNK.out W3.drew) (fun w2 hb => (HS3.out.drew.below hb).bn.thereN hc8) (fun _ _ d _ _ h => by cases d <;> exact h) ?_
    intro w4 hb4
    have HS5 : Hid (St B g S1 (upd es c [z0, z1, z2, z3, z4]) (upd ns c (ns i * ns k % P)) rv (l ++ [(3, 12)]) l vs (w4.setCells g (40 + c * 17) ((bts (ns i * ns k % P)).map (Value.int .i64)))) := (HS3.out.drew.below hb4).stepN hc8 _
    have HG5 : Hid (Grow S w (w4.setCells g (40 + c * 17) ((bts (ns i * ns k % P)).map (Value.int .i64)))) := (HG3.out.bel ((Below.refl _ _).drew.trans hb4)).setCells HST.out.hg _ _
    obtain ⟨W5, hW5⟩ : ∃ W, w4.setCells g (40 + c * 17) ((bts (ns i * ns k % P)).map (Value.int .i64)) = W := ⟨_, rfl⟩
    rw [hW5] at HS5 HG5 ⊢
    clear hW5 hb4 HX HY
    go_wp2_with (fail)
    refine wp_as (c' := rgS18) (by kernel_rfl) ?_
    refine step_r18 HS5 (by omega) (fun _ _ d _ _ h => by cases d <;> exact h) ?_
    intro b9 vs' S2 W6 hS6 hG6 hk6
    have HS6 : Hid (St B g S2 (upd es c [z0, z1, z2, z3, z4]) (upd ns c (ns i * ns k % P)) rv (l ++ [(3, 12)]) (l ++ [(3, 12)]) vs' W6) := hS6
    have HG6 : Hid (Grow S w W6) := HG5.out.tr2 hG6 HK3.out
    have HK6 : Hid (∀ k, S2 k → S k ∨ w.heap.size ≤ k) := fun k hk => by rcases hk6 k hk with h | h; exact HK3.out k h; exact .inr (Nat.le_trans HG5.out.size h)
    clear hS6 hG6 hk6
    have HFN : Hid (NSX = upd ns c (ns i * ns k % P)) := by
      have e : NSX = upd ns c (ns i * ns k % P) := by have e := HNSX.out; simpa using e
      exact e
    have HFL : Hid (LGX = l ++ [(3, 12)]) := by
      have e : LGX = l ++ [(3, 12)] := by have e := HLGX.out; simpa using e
      exact e
    go_wp2
    go_ret
    exact ⟨rfl, S2, upd es c [z0, z1, z2, z3, z4], vs', by rw [HFN.out, HFL.out]; exact HS6.out, by rw [HFN.out]; exact upd_num HNUM.out c NZ.out, HG6.out, HK6.out⟩
  by_cases h5 : kd = 5
  · subst h5
    clear h1 h2 h3 h4
    have HX : Hid (∀ V9 : World, Below W0.heap.size W0 V9 → V9.rangeAt g (i * 5) ((es i).map (Value.int .u64))) := fun V9 hV => (HST.out.below hV).bn.rangeE hi8
    have HLE : Hid ((es i).length = 5) := (HST.out.bn.lim i hi8).len
    have HY : Hid (∀ V9 : World, Below W0.heap.size W0 V9 → V9.rangeAt g (40 + i * 17) ((bts (ns i)).map (Value.int .i64))) := fun V9 hV => (HST.out.below hV).bn.rangeN hi8
    obtain ⟨R, hR⟩ : ∃ R, bts (ns i) = R := ⟨_, rfl⟩
    have C1 : Hid (∀ w, Calls Try.prog 13 #[.agg (VI .u64 (es i))] w fun e w' => e = .returned (.agg (VI .u8 R)) ∧ Below w.heap.size w w') := fun w => bytes_is (HST.out.bn.lim i hi8) (by rw [HNUM.out i hi8]; exact hR) w
    have C2 : Hid (∀ w, Calls Try.prog 26 #[.agg (VI .i64 (bts (ns i)))] w fun e w' => e = .returned (.agg (VI .u8 R)) ∧ Below w.heap.size w w') := fun w => (rbytes_any (ns i) w).mono fun e w' hh => ⟨by rw [hh.1, hR], hh.2⟩
    have HQ9 : Hid (∀ w, (Op.equalIn 10000 39 (.agg (VI .u8 R)) (.agg (VI .u8 R))).run Try.prog w = .ok true w) := fun w => eq17t (by rw [← hR]; exact bts_len _) w
    clear hR
    go_wp2_with (fail)
    refine wp_as (c' := rgS20) (by kernel_rfl) ?_
    refine step_r20 hi8 HX HLE C1 HY (bts_len _) C2 HQ9.out ?_
    intro W3 hb3
    have HS3 : Hid (St B g S es ns rv l l vs W3) := HST.out.below hb3
    have HG3 : Hid (Grow S w W3) := (Grow.of_below HBX.out).bel hb3
    clear hb3
    have HFN : Hid (NSX = ns) := by
      have e : NSX = ns := by have e := HNSX.out; simpa using e
      exact e
    have HFL : Hid (LGX = l) := by
      have e : LGX = l := by have e := HLGX.out; simpa using e
      exact e
    go_wp2
    go_ret
    exact ⟨rfl, S, es, vs, by rw [HFN.out, HFL.out]; exact HS3.out, by rw [HFN.out]; exact HNUM.out, HG3.out, fun k hk => .inl hk⟩
  by_cases h6 : kd = 6
  · subst h6
    clear h1 h2 h3 h4 h5
    have HX : Hid (∀ V9 : World, Below W0.heap.size W0 V9 → V9.rangeAt g (i * 5) ((es i).map (Value.int .u64))) := fun V9 hV => (HST.out.below hV).bn.rangeE hi8
    have HLE : Hid ((es i).length = 5) := (HST.out.bn.lim i hi8).len
    have HY : Hid (∀ V9 : World, Below W0.heap.size W0 V9 → V9.rangeAt g (40 + i * 17) ((bts (ns i)).map (Value.int .i64))) := fun V9 hV => (HST.out.below hV).bn.rangeN hi8
    obtain ⟨R, hR⟩ : ∃ R, smt (bts (ns i)) low = R := ⟨_, rfl⟩
    have HZ : Hid (∀ V9 : World, Below W0.heap.size W0 V9 → V9.rangeAt q 4 (low.map (Value.int .u8))) := fun V9 hV => range_below hV (by have := HSZ.out; omega) (step_box HLOW.out.len (by have := HRX.out; rw [← HXX.out] at this; exact this)).2.2.2.2.1
    have HLL : Hid (low.length = 16) := HLOW.out.len
    have C1 : Hid (∀ w, Calls Try.prog 27 #[.agg (VI .u64 (es i)), .agg (VI .u8 low)] w fun e w' => e = .returned (.agg (VI .u8 R)) ∧ Below w.heap.size w w') := fun w => sum_is (HST.out.bn.lim i hi8) HLOW.out (by rw [HNUM.out i hi8]; exact hR) w
    have C2 : Hid (∀ w, Calls Try.prog 28 #[.agg (VI .i64 (bts (ns i))), .agg (VI .u8 low)] w fun e w' => e = .returned (.agg (VI .u8 R)) ∧ Below w.heap.size w w') := fun w => (rsum_any (ns i) low HLOW.out w).mono fun e w' hh => ⟨by rw [hh.1, hR], hh.2⟩
    have HQ9 : Hid (∀ w, (Op.equalIn 10000 67 (.agg (VI .u8 R)) (.agg (VI .u8 R))).run Try.prog w = .ok true w) := fun w => (run_equalIn_row w 9998 67 5 .u8 16 R R (by rw [← hR]; exact smt_len _ _) (by rw [← hR]; exact smt_len _ _) Try.underlying67 Try.underlying5 size5).trans (by rw [beq_self_eq_true])
    clear hR
    go_wp2_with (fail)
    refine wp_as (c' := rgS22) (by kernel_rfl) ?_
    refine step_r22 hi8 HX HLE HZ HLL C1 HY (bts_len _) C2 HQ9.out ?_
    intro W3 hb3
    have HS3 : Hid (St B g S es ns rv l l vs W3) := HST.out.below hb3
    have HG3 : Hid (Grow S w W3) := (Grow.of_below HBX.out).bel hb3
    clear hb3
    have HFN : Hid (NSX = ns) := by
      have e : NSX = ns := by have e := HNSX.out; simpa using e
      exact e
    have HFL : Hid (LGX = l) := by
      have e : LGX = l := by have e := HLGX.out; simpa using e
      exact e
    go_wp2
    go_ret
    exact ⟨rfl, S, es, vs, by rw [HFN.out, HFL.out]; exact HS3.out, by rw [HFN.out]; exact HNUM.out, HG3.out, fun k hk => .inl hk⟩
  have HFN : Hid (NSX = ns) := by
      have e : NSX = ns := by have e := HNSX.out; simpa [h1, h2, h3, h4] using e
      exact e
  have HFL : Hid (LGX = l) := by
      have e : LGX = l := by have e := HLGX.out; simpa [h3, h4] using e
      exact e
  have HG3 : Hid (Grow S w W0) := Grow.of_below HBX.out
  go_wp2
  go_ret
  exact ⟨rfl, S, es, vs, by rw [HFN.out, HFL.out]; exact HST.out, by rw [HFN.out]; exact HNUM.out, HG3.out, fun k hk => .inl hk⟩
end Go.Proofs.Ytfeoamkngnpcmaa
