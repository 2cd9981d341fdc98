import Derived.Test.YtigapdfefapdgaaTraceSn
namespace Go.Proofs.Ytigapdfefapdgaa
set_option linter.unusedSimpArgs false
open Go.ChangeShapes Go.WideShapes Go.ChangeAt Go.RowKit Go.Pin
set_option maxRecDepth 100000 in
set_option maxHeartbeats 4000000 in
theorem sn1_any (bS bR bK bW bA b1 b2 bT bG bO R : Nat) (vW : Value) (n stop : Int) (all : Bool) (hd : Ord bS bR bK bW bA b1 b2 bT bG bO) (B : Nat) (vs : Value) (L wt : List (Int × Int)) (m : Nat) (x1 x2 : Int) (q : Bool) (hq : ((m : Int) + 1 == stop) = q) (W : World) (st : St bS bR bK bW bA b1 b2 bT bG bO R vW n stop all W m false) (r : Rec B W R vs L) (hs : Sl W vW 2 (evC wt) wt.length)
    (hdv : ∀ k, vW.ownBlock = some k → ¬ IsBox bS bR bK bW bA b1 b2 bT bG bO k ∧ ¬ Blk R vs k) (hx : wt[m]? = some (x1, x2)) (h0 : (beh L n)[0]? = wt[0]?) (hL : L.length ≤ 100000) (hW : wt.length ≤ 100000) :
    Calls Try.prog 24 #[.agg #[.int .i64 x1, .int .i64 x2], .pointer (some ⟨bO, 0, none⟩), .pointer (some ⟨bG, 0, none⟩), .pointer (some ⟨bW, 0, none⟩), .pointer (some ⟨bK, 0, none⟩), .pointer (some ⟨bT, 0, none⟩), .pointer (some ⟨bR, 0, none⟩), .pointer (some ⟨bS, 0, none⟩), .pointer (some ⟨bA, 0, none⟩)] W fun e W' =>
      e = .returned (.bool (!(q && !all))) ∧ ∃ vs', St bS bR bK bW bA b1 b2 bT bG bO R vW n stop all W' (m + 1) (q && !all) ∧ Rec B W' R vs' (L ++ [(3, 9)]) ∧ Sl W' vs 2 (evC L) L.length ∧ Grow (fun k => k = bK ∨ k = bG ∨ k = bO ∨ Blk R vs k) W W' ∧ (vs'.ownBlock = vs.ownBlock ∨ ∃ g, vs'.ownBlock = some g ∧ W.heap.size ≤ g) := by
  have hlen : m < wt.length := (List.getElem?_eq_some_iff.1 hx).1
  have hm0 : (wt[0]?).isSome := by simp; omega
  obtain ⟨_, va, vc, rfl, _, hrd⟩ := id hs
  rcases hrd with hz | ⟨vb, vo, rfl, hcc⟩
  · omega
  have blt : vb < W.heap.size := World.block_lt_of_cell? W _ (hcc _ _ (evC_at wt m _ hx).1)
  have g0 : Below W.heap.size W (W.alloc (.cells #[.int .i64 x1, .int .i64 x2] 37)) := (Below.refl _ _).alloc (Nat.le_refl _) _
  have y0 : (W.alloc (.cells #[.int .i64 x1, .int .i64 x2] 37)).cell? ⟨W.heap.size, 0, none⟩ = some (.int .i64 x1) := by simp
  have y1 : (W.alloc (.cells #[.int .i64 x1, .int .i64 x2] 37)).cell? ⟨W.heap.size, 1, none⟩ = some (.int .i64 x2) := by simp
  have hsz0 : (W.alloc (.cells #[.int .i64 x1, .int .i64 x2] 37)).heap.size = W.heap.size + 1 := by simp
  obtain ⟨W0, hW0⟩ : ∃ W0, W.alloc (.cells #[.int .i64 x1, .int .i64 x2] 37) = W0 := ⟨_, rfl⟩
  rw [hW0] at g0 y0 y1 hsz0
  have st0 := st.below g0
  have hs0 := sl_below g0 hs
  have r0 := r.below g0
  have e1 : W0.cell? ⟨vb, vo + m * 2, none⟩ = some (.int .i64 x1) := (g0.cell (p := ⟨vb, vo + m * 2, none⟩) blt).trans (hcc _ _ (evC_at wt m _ hx).1)
  have e2 : W0.cell? ⟨vb, vo + m * 2 + 1, none⟩ = some (.int .i64 x2) := (g0.cell (p := ⟨vb, vo + m * 2 + 1, none⟩) blt).trans (by rw [Nat.add_assoc]; exact hcc _ _ (evC_at wt m _ hx).2)
  have po := st0.o.cell
  have pg := st0.g.cell
  have pw := st0.w.cell
  have HST0 : Hid (_ ∧ _ ∧ _) := And.intro st0 (And.intro hs0 r0)
  have HG0 : Hid (Below W.heap.size W W0) := g0
  have HBL : Hid (vb < W.heap.size) := blt
  have HDV : Hid (_ ∧ _) := hdv vb rfl
  have HD : Hid (Ord bS bR bK bW bA b1 b2 bT bG bO) := hd
  have hgl1 : decide (wt.length ≤ m) = false := decide_eq_false (by omega)
  have hlL : Hid (L.length ≤ 100000) := hL
  have H0 : Hid ((beh L n)[0]? = wt[0]?) := h0
  have HSZ : Hid (W0.heap.size = W.heap.size + 1) := hsz0
  clear st r hs hx hm0 g0 st0 hs0 r0 hdv hcc blt hd hL h0 hsz0
  cases q
  · cases all
    · go_enter Try.func24, Try.ntmps24
      go_wp2
      go_quiet (fail)
      generalize hWq : W0.drewN nq = Wq
      have gq : Below W0.heap.size W0 Wq := by rw [← hWq]; exact dn nq
      have stq := HST0.out.1.below gq
      have hsq := sl_below gq HST0.out.2.1
      have rq := HST0.out.2.2.below gq
      have h0 := H0.out
      have hL := hlL.out
      have i0 := Boxed.new Wq 3 (.int .i64 0)
      have g1 : Below Wq.heap.size Wq (Wq.alloc (.cells #[.int .i64 0] 3)) := (Below.refl _ _).alloc (Nat.le_refl _) _
      obtain ⟨W1, hW1⟩ : ∃ W1, Wq.alloc (.cells #[.int .i64 0] 3) = W1 := ⟨_, rfl⟩
      rw [hW1] at i0 g1
      have ci0 := i0.cell
      have fi0 := i0.frozen
      have g2 : Below Wq.heap.size Wq (W1.setCell ⟨Wq.heap.size, 0, none⟩ (.int .i64 0)) := g1.setCell (p := ⟨Wq.heap.size, 0, none⟩) (Nat.le_refl _) _
      have i2 := i0.set (.int .i64 0)
      obtain ⟨W2, hW2⟩ : ∃ W2, W1.setCell ⟨Wq.heap.size, 0, none⟩ (.int .i64 0) = W2 := ⟨_, rfl⟩
      rw [hW2] at g2 i2
      have st2 := stq.below g2
      have hs2 := sl_below g2 hsq
      have r2 := rq.below g2
      have hI2 : ∀ k, IsBox bS bR bK bW bA b1 b2 bT bG bO k → k ≠ Wq.heap.size := fun k hk e => by have := stq.lt k hk; omega
      have hIR : ¬ Blk R vs Wq.heap.size := fun h => by have := rq.lt _ h; omega
      have hvI : vb ≠ Wq.heap.size := by have := gq.size; have := HG0.out.size; have := HBL.out; omega
      have hvd := HDV.out
      have HC : Hid (∀ Wc, Below W2.heap.size W2 Wc → Calls Try.prog 39 #[.func (.func 25) #[] #[.pointer (some ⟨Wq.heap.size, 0, none⟩), .pointer (some ⟨bK, 0, none⟩), .pointer (some ⟨bW, 0, none⟩)], .pointer (some ⟨b1, 0, none⟩), .pointer (some ⟨b2, 0, none⟩)] Wc fun e W' => e = .returned (.tuple #[]) ∧ Boxed W' Wq.heap.size 3 (.int .i64 1) ∧ Boxed W' bK 4 (.bool true) ∧ Grow (fun k => k = Wq.heap.size ∨ k = bK) W2 W') := by
        intro Wc hbc
        have stc := st2.below hbc
        refine (since1_call 25 _ (enters_of Try.func25 (by kernel_rfl) rfl) b1 b2 (.pointer (some ⟨R, 0, none⟩)) vs n L (by omega)
          (fun pre X => pre = [] ∧ Below W2.heap.size W2 X) (fun _ X => Boxed X Wq.heap.size 3 (.int .i64 1) ∧ Boxed X bK 4 (.bool true) ∧ Grow (fun k => k = Wq.heap.size ∨ k = bK) W2 X) Wc ?_ ?_ ?_ (r2.below hbc).opt stc.c1.cell stc.c2.cell ⟨rfl, hbc⟩).mono ?_
        · rintro pre X o ⟨rfl, hb⟩
          exact ⟨rfl, hb.alloc hb.size _⟩
        · rintro pre X ⟨_, hb⟩
          exact (r2.below hb).opt.sl
        · rintro pre ⟨z1, z2⟩ X ⟨rfl, hb⟩ _ hget
          rw [List.length_nil, h0] at hget
          refine (sn11_any Wq.heap.size bK bW _ wt z1 z2 X (bbelow i2 hb) (bbelow st2.k hb) (bbelow st2.w hb) (sl_below hb hs2) hget (fun k hk => by cases hk; exact ⟨hvI, fun h => hvd.1 (.inr (.inr (.inl h)))⟩)).mono ?_
          rintro e X' ⟨rfl, h1, h2, h3⟩
          exact .inr ⟨rfl, h1, h2, (Grow.of_below hb).trans h3⟩
        · rintro e W' ⟨rfl, ⟨hn, _⟩ | ⟨_, _, h⟩⟩
          · rw [hn, List.getElem?_nil] at h0
            have := List.getElem?_eq_none_iff.1 h0.symm
            omega
          · exact ⟨rfl, h⟩
      have hmf : ∀ (fn : Fn) (first cap : Array Value) (w : World), (Instr.makeFunc fn first cap).run Try.prog w = .ok (.func fn first cap) w := fun _ _ _ _ => rfl
      have hen : ∀ args w, (callFunc 39 args).run Try.prog w = .ok (.enter 39 args) w := enters_of Try.func39 (by kernel_rfl) rfl
      have qt := st2.t.cell
      have HST : Hid (_ ∧ _ ∧ _) := And.intro st2 (And.intro hI2 r2)
      have HG2 : Hid (Below W.heap.size W W2) := (HG0.out.trans (gq.mono HG0.out.size)).trans (g2.mono (Nat.le_trans HG0.out.size gq.size))
      have HSQ : Hid (W.heap.size < Wq.heap.size) := by have := HSZ.out; have := gq.size; exact (by omega : W.heap.size < Wq.heap.size)
      have HIR : Hid (¬ Blk R vs Wq.heap.size) := hIR
      clear g1 g2 i0 i2 stq hsq rq st2 hs2 r2 hI2 hIR hvI hvd gq hWq h0 hL HST0 HG0 HDV HBL H0 e1 e2 y0 y1 pg pw po
      go_wp2_with (fail)
      refine (HC.out _ (Below.refl _ _)).mono ?_
      rintro e W3 ⟨rfl, i3, k3, g3⟩
      obtain ⟨st2, hI2, r2⟩ := HST.out
      have st3 : St bS bR bK bW bA b1 b2 bT bG bO R _ n stop _ W3 m false := ⟨bgrow st2.s g3 (by rintro (h | h); exact hI2 _ (by simp [IsBox]) h; have := HD.out; unfold Ord at this; omega), bgrow st2.r g3 (by rintro (h | h); exact hI2 _ (by simp [IsBox]) h; have := HD.out; unfold Ord at this; omega), k3, bgrow st2.w g3 (by rintro (h | h); exact hI2 _ (by simp [IsBox]) h; have := HD.out; unfold Ord at this; omega), bgrow st2.a g3 (by rintro (h | h); exact hI2 _ (by simp [IsBox]) h; have := HD.out; unfold Ord at this; omega), bgrow st2.t g3 (by rintro (h | h); exact hI2 _ (by simp [IsBox]) h; have := HD.out; unfold Ord at this; omega), bgrow st2.g g3 (by rintro (h | h); exact hI2 _ (by simp [IsBox]) h; have := HD.out; unfold Ord at this; omega), bgrow st2.o g3 (by rintro (h | h); exact hI2 _ (by simp [IsBox]) h; have := HD.out; unfold Ord at this; omega), bgrow st2.c1 g3 (by rintro (h | h); exact hI2 _ (by simp [IsBox]) h; have := HD.out; unfold Ord at this; omega), bgrow st2.c2 g3 (by rintro (h | h); exact hI2 _ (by simp [IsBox]) h; have := HD.out; unfold Ord at this; omega)⟩
      have r3 : Rec B W3 R vs L := r2.grow g3 (by rintro k hk (rfl | rfl); exact HIR.out hk; exact st2.not_blk r2 _ (by simp [IsBox]) hk)
      have ci3 := i3.cell
      have ck3 := st3.k.cell
      have fk3 := st3.k.frozen
      obtain ⟨W4, hW4⟩ : ∃ W4, W3.setCell ⟨bK, 0, none⟩ (.bool true) = W4 := ⟨_, rfl⟩
      have st4 := st3.put_k HD.out
      have g4 : Grow (fun k => k = Wq.heap.size ∨ k = bK) W2 (W3.setCell ⟨bK, 0, none⟩ (.bool true)) := grow_set g3 (.inl (.inr rfl)) _ _
      have r4 : Rec B (W3.setCell ⟨bK, 0, none⟩ (.bool true)) R vs L := r2.grow g4 (by rintro k hk (rfl | rfl); exact HIR.out hk; exact st2.not_blk r2 _ (by simp [IsBox]) hk)
      rw [hW4] at st4 g4 r4
      have cr4 := st4.r.cell
      have HST4 : Hid (_ ∧ _) := And.intro st4 r4
      have HG4 : Hid (Grow (fun k => k = Wq.heap.size ∨ k = bK) W2 W4) := g4
      clear st2 hI2 r2 st3 r3 g3 i3 k3 st4 g4 r4 HST HC
      go_wp2_with (fail)
      refine (rOpx_any B R vs L 9 W4 HST4.out.2 (by have := hlL.out; omega)).mono ?_
      rintro e W5 ⟨rfl, vs5, r5, g5, s5, hv5⟩
      have st5 := HST4.out.1.grow g5 (HST4.out.1.not_blk HST4.out.2)
      have cg5 := st5.g.cell
      have fg5 := st5.g.frozen
      obtain ⟨W6, hW6⟩ : ∃ W6, W5.setCell ⟨bG, 0, none⟩ (.int .i64 (m + 1)) = W6 := ⟨_, rfl⟩
      have st6 := st5.put_g HD.out (m + 1)
      have g6 : Grow (fun k => k = bG ∨ k = bO ∨ Blk R vs k) W4 (W5.setCell ⟨bG, 0, none⟩ (.int .i64 (m + 1))) := grow_set (g5.mono (fun k h => .inr (.inr h))) (.inl (.inl rfl)) _ _
      have r6 : Rec B (W5.setCell ⟨bG, 0, none⟩ (.int .i64 (m + 1))) R vs5 (L ++ [(3, 9)]) := r5.grow (S := fun k => k = bG) (grow_set (S := fun k => k = bG) (grow_refl _ _) (.inl rfl) _ _) (by rintro k hk rfl; exact st5.not_blk r5 _ (by simp [IsBox]) hk)
      rw [hW6] at st6 g6 r6
      have cg6 := st6.g.cell
      have cs6 := st6.s.cell
      have ca6 := st6.a.cell
      have ck6 := st6.k.cell
      have co6 := st6.o.cell
      have fo6 := st6.o.frozen
      obtain ⟨W7, hW7⟩ : ∃ W7, W6.setCell ⟨bO, 0, none⟩ (.bool false) = W7 := ⟨_, rfl⟩
      have st7 := st6.put_o HD.out (false)
      have g7 : Grow (fun k => k = bG ∨ k = bO ∨ Blk R vs k) W4 (W6.setCell ⟨bO, 0, none⟩ (.bool false)) := grow_set g6 (.inl (.inr (.inl rfl))) _ _
      have r7 : Rec B (W6.setCell ⟨bO, 0, none⟩ (.bool false)) R vs5 (L ++ [(3, 9)]) := r6.grow (S := fun k => k = bO) (grow_set (S := fun k => k = bO) (grow_refl _ _) (.inl rfl) _ _) (by rintro k hk rfl; exact st6.not_blk r6 _ (by simp [IsBox]) hk)
      rw [hW7] at st7 g7 r7
      have co7 := st7.o.cell
      have s7 : Sl W7 vs 2 (evC L) L.length := by rw [← hW7, ← hW6]; exact sl_grow (S := fun k => k = bG ∨ k = bO) (grow_set (S := fun k => k = bG ∨ k = bO) (grow_set (S := fun k => k = bG ∨ k = bO) (grow_refl _ _) (.inl (.inl rfl)) _ _) (.inl (.inr rfl)) _ _) s5 (by rintro k hk (rfl | rfl); exact HST4.out.1.not_blk HST4.out.2 _ (by simp [IsBox]) (.inr hk); exact HST4.out.1.not_blk HST4.out.2 _ (by simp [IsBox]) (.inr hk))
      have H7 : Hid (_ ∧ _ ∧ _ ∧ _) := And.intro st7 (And.intro g7 (And.intro r7 s7))
      have HV5 : Hid (vs5.ownBlock = vs.ownBlock ∨ ∃ g, vs5.ownBlock = some g ∧ W4.heap.size ≤ g) := hv5
      clear st5 r5 g5 hv5 st6 g6 r6 st7 g7 r7 s5 s7 HST4
      go_wp2
      go_ret
      obtain ⟨st7, g7, r7, s7⟩ := H7.out
      refine ⟨rfl, vs5, st7, r7, s7, ?_, ?_⟩
      · have ga : Grow (fun k => k = bK ∨ k = bG ∨ k = bO ∨ Blk R vs k) W W4 := by
          refine ⟨HG4.out.os.trans HG2.out.os, HG4.out.tape.trans HG2.out.tape, HG4.out.output.trans HG2.out.output, Nat.le_trans HG2.out.size HG4.out.size, fun k hk hn => ?_⟩
          refine (HG4.out.block k (Nat.lt_of_lt_of_le hk HG2.out.size) ?_).trans (HG2.out.block k hk)
          rintro (rfl | rfl)
          · have := HSQ.out
            omega
          · exact hn (.inl rfl)
        exact ga.trans (g7.mono (fun k h => .inr h))
      · rcases HV5.out with h | ⟨g, h, hg⟩
        · exact .inl h
        · exact .inr ⟨g, h, Nat.le_trans HG2.out.size (Nat.le_trans HG4.out.size hg)⟩
    · go_enter Try.func24, Try.ntmps24
      go_wp2
      go_quiet (fail)
      generalize hWq : W0.drewN nq = Wq
      have gq : Below W0.heap.size W0 Wq := by rw [← hWq]; exact dn nq
      have stq := HST0.out.1.below gq
      have hsq := sl_below gq HST0.out.2.1
      have rq := HST0.out.2.2.below gq
      have h0 := H0.out
      have hL := hlL.out
      have i0 := Boxed.new Wq 3 (.int .i64 0)
      have g1 : Below Wq.heap.size Wq (Wq.alloc (.cells #[.int .i64 0] 3)) := (Below.refl _ _).alloc (Nat.le_refl _) _
      obtain ⟨W1, hW1⟩ : ∃ W1, Wq.alloc (.cells #[.int .i64 0] 3) = W1 := ⟨_, rfl⟩
      rw [hW1] at i0 g1
      have ci0 := i0.cell
      have fi0 := i0.frozen
      have g2 : Below Wq.heap.size Wq (W1.setCell ⟨Wq.heap.size, 0, none⟩ (.int .i64 0)) := g1.setCell (p := ⟨Wq.heap.size, 0, none⟩) (Nat.le_refl _) _
      have i2 := i0.set (.int .i64 0)
      obtain ⟨W2, hW2⟩ : ∃ W2, W1.setCell ⟨Wq.heap.size, 0, none⟩ (.int .i64 0) = W2 := ⟨_, rfl⟩
      rw [hW2] at g2 i2
      have st2 := stq.below g2
      have hs2 := sl_below g2 hsq
      have r2 := rq.below g2
      have hI2 : ∀ k, IsBox bS bR bK bW bA b1 b2 bT bG bO k → k ≠ Wq.heap.size := fun k hk e => by have := stq.lt k hk; omega
      have hIR : ¬ Blk R vs Wq.heap.size := fun h => by have := rq.lt _ h; omega
      have hvI : vb ≠ Wq.heap.size := by have := gq.size; have := HG0.out.size; have := HBL.out; omega
      have hvd := HDV.out
      have HC : Hid (∀ Wc, Below W2.heap.size W2 Wc → Calls Try.prog 39 #[.func (.func 25) #[] #[.pointer (some ⟨Wq.heap.size, 0, none⟩), .pointer (some ⟨bK, 0, none⟩), .pointer (some ⟨bW, 0, none⟩)], .pointer (some ⟨b1, 0, none⟩), .pointer (some ⟨b2, 0, none⟩)] Wc fun e W' => e = .returned (.tuple #[]) ∧ Boxed W' Wq.heap.size 3 (.int .i64 1) ∧ Boxed W' bK 4 (.bool true) ∧ Grow (fun k => k = Wq.heap.size ∨ k = bK) W2 W') := by
        intro Wc hbc
        have stc := st2.below hbc
        refine (since1_call 25 _ (enters_of Try.func25 (by kernel_rfl) rfl) b1 b2 (.pointer (some ⟨R, 0, none⟩)) vs n L (by omega)
          (fun pre X => pre = [] ∧ Below W2.heap.size W2 X) (fun _ X => Boxed X Wq.heap.size 3 (.int .i64 1) ∧ Boxed X bK 4 (.bool true) ∧ Grow (fun k => k = Wq.heap.size ∨ k = bK) W2 X) Wc ?_ ?_ ?_ (r2.below hbc).opt stc.c1.cell stc.c2.cell ⟨rfl, hbc⟩).mono ?_
        · rintro pre X o ⟨rfl, hb⟩
          exact ⟨rfl, hb.alloc hb.size _⟩
        · rintro pre X ⟨_, hb⟩
          exact (r2.below hb).opt.sl
        · rintro pre ⟨z1, z2⟩ X ⟨rfl, hb⟩ _ hget
          rw [List.length_nil, h0] at hget
          refine (sn11_any Wq.heap.size bK bW _ wt z1 z2 X (bbelow i2 hb) (bbelow st2.k hb) (bbelow st2.w hb) (sl_below hb hs2) hget (fun k hk => by cases hk; exact ⟨hvI, fun h => hvd.1 (.inr (.inr (.inl h)))⟩)).mono ?_
          rintro e X' ⟨rfl, h1, h2, h3⟩
          exact .inr ⟨rfl, h1, h2, (Grow.of_below hb).trans h3⟩
        · rintro e W' ⟨rfl, ⟨hn, _⟩ | ⟨_, _, h⟩⟩
          · rw [hn, List.getElem?_nil] at h0
            have := List.getElem?_eq_none_iff.1 h0.symm
            omega
          · exact ⟨rfl, h⟩
      have hmf : ∀ (fn : Fn) (first cap : Array Value) (w : World), (Instr.makeFunc fn first cap).run Try.prog w = .ok (.func fn first cap) w := fun _ _ _ _ => rfl
      have hen : ∀ args w, (callFunc 39 args).run Try.prog w = .ok (.enter 39 args) w := enters_of Try.func39 (by kernel_rfl) rfl
      have qt := st2.t.cell
      have HST : Hid (_ ∧ _ ∧ _) := And.intro st2 (And.intro hI2 r2)
      have HG2 : Hid (Below W.heap.size W W2) := (HG0.out.trans (gq.mono HG0.out.size)).trans (g2.mono (Nat.le_trans HG0.out.size gq.size))
      have HSQ : Hid (W.heap.size < Wq.heap.size) := by have := HSZ.out; have := gq.size; exact (by omega : W.heap.size < Wq.heap.size)
      have HIR : Hid (¬ Blk R vs Wq.heap.size) := hIR
      clear g1 g2 i0 i2 stq hsq rq st2 hs2 r2 hI2 hIR hvI hvd gq hWq h0 hL HST0 HG0 HDV HBL H0 e1 e2 y0 y1 pg pw po
      go_wp2_with (fail)
      refine (HC.out _ (Below.refl _ _)).mono ?_
      rintro e W3 ⟨rfl, i3, k3, g3⟩
      obtain ⟨st2, hI2, r2⟩ := HST.out
      have st3 : St bS bR bK bW bA b1 b2 bT bG bO R _ n stop _ W3 m false := ⟨bgrow st2.s g3 (by rintro (h | h); exact hI2 _ (by simp [IsBox]) h; have := HD.out; unfold Ord at this; omega), bgrow st2.r g3 (by rintro (h | h); exact hI2 _ (by simp [IsBox]) h; have := HD.out; unfold Ord at this; omega), k3, bgrow st2.w g3 (by rintro (h | h); exact hI2 _ (by simp [IsBox]) h; have := HD.out; unfold Ord at this; omega), bgrow st2.a g3 (by rintro (h | h); exact hI2 _ (by simp [IsBox]) h; have := HD.out; unfold Ord at this; omega), bgrow st2.t g3 (by rintro (h | h); exact hI2 _ (by simp [IsBox]) h; have := HD.out; unfold Ord at this; omega), bgrow st2.g g3 (by rintro (h | h); exact hI2 _ (by simp [IsBox]) h; have := HD.out; unfold Ord at this; omega), bgrow st2.o g3 (by rintro (h | h); exact hI2 _ (by simp [IsBox]) h; have := HD.out; unfold Ord at this; omega), bgrow st2.c1 g3 (by rintro (h | h); exact hI2 _ (by simp [IsBox]) h; have := HD.out; unfold Ord at this; omega), bgrow st2.c2 g3 (by rintro (h | h); exact hI2 _ (by simp [IsBox]) h; have := HD.out; unfold Ord at this; omega)⟩
      have r3 : Rec B W3 R vs L := r2.grow g3 (by rintro k hk (rfl | rfl); exact HIR.out hk; exact st2.not_blk r2 _ (by simp [IsBox]) hk)
      have ci3 := i3.cell
      have ck3 := st3.k.cell
      have fk3 := st3.k.frozen
      obtain ⟨W4, hW4⟩ : ∃ W4, W3.setCell ⟨bK, 0, none⟩ (.bool true) = W4 := ⟨_, rfl⟩
      have st4 := st3.put_k HD.out
      have g4 : Grow (fun k => k = Wq.heap.size ∨ k = bK) W2 (W3.setCell ⟨bK, 0, none⟩ (.bool true)) := grow_set g3 (.inl (.inr rfl)) _ _
      have r4 : Rec B (W3.setCell ⟨bK, 0, none⟩ (.bool true)) R vs L := r2.grow g4 (by rintro k hk (rfl | rfl); exact HIR.out hk; exact st2.not_blk r2 _ (by simp [IsBox]) hk)
      rw [hW4] at st4 g4 r4
      have cr4 := st4.r.cell
      have HST4 : Hid (_ ∧ _) := And.intro st4 r4
      have HG4 : Hid (Grow (fun k => k = Wq.heap.size ∨ k = bK) W2 W4) := g4
      clear st2 hI2 r2 st3 r3 g3 i3 k3 st4 g4 r4 HST HC
      go_wp2_with (fail)
      refine (rOpx_any B R vs L 9 W4 HST4.out.2 (by have := hlL.out; omega)).mono ?_
      rintro e W5 ⟨rfl, vs5, r5, g5, s5, hv5⟩
      have st5 := HST4.out.1.grow g5 (HST4.out.1.not_blk HST4.out.2)
      have cg5 := st5.g.cell
      have fg5 := st5.g.frozen
      obtain ⟨W6, hW6⟩ : ∃ W6, W5.setCell ⟨bG, 0, none⟩ (.int .i64 (m + 1)) = W6 := ⟨_, rfl⟩
      have st6 := st5.put_g HD.out (m + 1)
      have g6 : Grow (fun k => k = bG ∨ k = bO ∨ Blk R vs k) W4 (W5.setCell ⟨bG, 0, none⟩ (.int .i64 (m + 1))) := grow_set (g5.mono (fun k h => .inr (.inr h))) (.inl (.inl rfl)) _ _
      have r6 : Rec B (W5.setCell ⟨bG, 0, none⟩ (.int .i64 (m + 1))) R vs5 (L ++ [(3, 9)]) := r5.grow (S := fun k => k = bG) (grow_set (S := fun k => k = bG) (grow_refl _ _) (.inl rfl) _ _) (by rintro k hk rfl; exact st5.not_blk r5 _ (by simp [IsBox]) hk)
      rw [hW6] at st6 g6 r6
      have cg6 := st6.g.cell
      have cs6 := st6.s.cell
      have ca6 := st6.a.cell
      have ck6 := st6.k.cell
      have co6 := st6.o.cell
      have fo6 := st6.o.frozen
      obtain ⟨W7, hW7⟩ : ∃ W7, W6.setCell ⟨bO, 0, none⟩ (.bool false) = W7 := ⟨_, rfl⟩
      have st7 := st6.put_o HD.out (false)
      have g7 : Grow (fun k => k = bG ∨ k = bO ∨ Blk R vs k) W4 (W6.setCell ⟨bO, 0, none⟩ (.bool false)) := grow_set g6 (.inl (.inr (.inl rfl))) _ _
      have r7 : Rec B (W6.setCell ⟨bO, 0, none⟩ (.bool false)) R vs5 (L ++ [(3, 9)]) := r6.grow (S := fun k => k = bO) (grow_set (S := fun k => k = bO) (grow_refl _ _) (.inl rfl) _ _) (by rintro k hk rfl; exact st6.not_blk r6 _ (by simp [IsBox]) hk)
      rw [hW7] at st7 g7 r7
      have co7 := st7.o.cell
      have s7 : Sl W7 vs 2 (evC L) L.length := by rw [← hW7, ← hW6]; exact sl_grow (S := fun k => k = bG ∨ k = bO) (grow_set (S := fun k => k = bG ∨ k = bO) (grow_set (S := fun k => k = bG ∨ k = bO) (grow_refl _ _) (.inl (.inl rfl)) _ _) (.inl (.inr rfl)) _ _) s5 (by rintro k hk (rfl | rfl); exact HST4.out.1.not_blk HST4.out.2 _ (by simp [IsBox]) (.inr hk); exact HST4.out.1.not_blk HST4.out.2 _ (by simp [IsBox]) (.inr hk))
      have H7 : Hid (_ ∧ _ ∧ _ ∧ _) := And.intro st7 (And.intro g7 (And.intro r7 s7))
      have HV5 : Hid (vs5.ownBlock = vs.ownBlock ∨ ∃ g, vs5.ownBlock = some g ∧ W4.heap.size ≤ g) := hv5
      clear st5 r5 g5 hv5 st6 g6 r6 st7 g7 r7 s5 s7 HST4
      go_wp2
      go_ret
      obtain ⟨st7, g7, r7, s7⟩ := H7.out
      refine ⟨rfl, vs5, st7, r7, s7, ?_, ?_⟩
      · have ga : Grow (fun k => k = bK ∨ k = bG ∨ k = bO ∨ Blk R vs k) W W4 := by
          refine ⟨HG4.out.os.trans HG2.out.os, HG4.out.tape.trans HG2.out.tape, HG4.out.output.trans HG2.out.output, Nat.le_trans HG2.out.size HG4.out.size, fun k hk hn => ?_⟩
          refine (HG4.out.block k (Nat.lt_of_lt_of_le hk HG2.out.size) ?_).trans (HG2.out.block k hk)
          rintro (rfl | rfl)
          · have := HSQ.out
            omega
          · exact hn (.inl rfl)
        exact ga.trans (g7.mono (fun k h => .inr h))
      · rcases HV5.out with h | ⟨g, h, hg⟩
        · exact .inl h
        · exact .inr ⟨g, h, Nat.le_trans HG2.out.size (Nat.le_trans HG4.out.size hg)⟩
  · cases all
    · go_enter Try.func24, Try.ntmps24
      go_wp2
      go_quiet (fail)
      generalize hWq : W0.drewN nq = Wq
      have gq : Below W0.heap.size W0 Wq := by rw [← hWq]; exact dn nq
      have stq := HST0.out.1.below gq
      have hsq := sl_below gq HST0.out.2.1
      have rq := HST0.out.2.2.below gq
      have h0 := H0.out
      have hL := hlL.out
      have i0 := Boxed.new Wq 3 (.int .i64 0)
      have g1 : Below Wq.heap.size Wq (Wq.alloc (.cells #[.int .i64 0] 3)) := (Below.refl _ _).alloc (Nat.le_refl _) _
      obtain ⟨W1, hW1⟩ : ∃ W1, Wq.alloc (.cells #[.int .i64 0] 3) = W1 := ⟨_, rfl⟩
      rw [hW1] at i0 g1
      have ci0 := i0.cell
      have fi0 := i0.frozen
      have g2 : Below Wq.heap.size Wq (W1.setCell ⟨Wq.heap.size, 0, none⟩ (.int .i64 0)) := g1.setCell (p := ⟨Wq.heap.size, 0, none⟩) (Nat.le_refl _) _
      have i2 := i0.set (.int .i64 0)
      obtain ⟨W2, hW2⟩ : ∃ W2, W1.setCell ⟨Wq.heap.size, 0, none⟩ (.int .i64 0) = W2 := ⟨_, rfl⟩
      rw [hW2] at g2 i2
      have st2 := stq.below g2
      have hs2 := sl_below g2 hsq
      have r2 := rq.below g2
      have hI2 : ∀ k, IsBox bS bR bK bW bA b1 b2 bT bG bO k → k ≠ Wq.heap.size := fun k hk e => by have := stq.lt k hk; omega
      have hIR : ¬ Blk R vs Wq.heap.size := fun h => by have := rq.lt _ h; omega
      have hvI : vb ≠ Wq.heap.size := by have := gq.size; have := HG0.out.size; have := HBL.out; omega
      have hvd := HDV.out
      have HC : Hid (∀ Wc, Below W2.heap.size W2 Wc → Calls Try.prog 39 #[.func (.func 25) #[] #[.pointer (some ⟨Wq.heap.size, 0, none⟩), .pointer (some ⟨bK, 0, none⟩), .pointer (some ⟨bW, 0, none⟩)], .pointer (some ⟨b1, 0, none⟩), .pointer (some ⟨b2, 0, none⟩)] Wc fun e W' => e = .returned (.tuple #[]) ∧ Boxed W' Wq.heap.size 3 (.int .i64 1) ∧ Boxed W' bK 4 (.bool true) ∧ Grow (fun k => k = Wq.heap.size ∨ k = bK) W2 W') := by
        intro Wc hbc
        have stc := st2.below hbc
        refine (since1_call 25 _ (enters_of Try.func25 (by kernel_rfl) rfl) b1 b2 (.pointer (some ⟨R, 0, none⟩)) vs n L (by omega)
          (fun pre X => pre = [] ∧ Below W2.heap.size W2 X) (fun _ X => Boxed X Wq.heap.size 3 (.int .i64 1) ∧ Boxed X bK 4 (.bool true) ∧ Grow (fun k => k = Wq.heap.size ∨ k = bK) W2 X) Wc ?_ ?_ ?_ (r2.below hbc).opt stc.c1.cell stc.c2.cell ⟨rfl, hbc⟩).mono ?_
        · rintro pre X o ⟨rfl, hb⟩
          exact ⟨rfl, hb.alloc hb.size _⟩
        · rintro pre X ⟨_, hb⟩
          exact (r2.below hb).opt.sl
        · rintro pre ⟨z1, z2⟩ X ⟨rfl, hb⟩ _ hget
          rw [List.length_nil, h0] at hget
          refine (sn11_any Wq.heap.size bK bW _ wt z1 z2 X (bbelow i2 hb) (bbelow st2.k hb) (bbelow st2.w hb) (sl_below hb hs2) hget (fun k hk => by cases hk; exact ⟨hvI, fun h => hvd.1 (.inr (.inr (.inl h)))⟩)).mono ?_
          rintro e X' ⟨rfl, h1, h2, h3⟩
          exact .inr ⟨rfl, h1, h2, (Grow.of_below hb).trans h3⟩
        · rintro e W' ⟨rfl, ⟨hn, _⟩ | ⟨_, _, h⟩⟩
          · rw [hn, List.getElem?_nil] at h0
            have := List.getElem?_eq_none_iff.1 h0.symm
            omega
          · exact ⟨rfl, h⟩
      have hmf : ∀ (fn : Fn) (first cap : Array Value) (w : World), (Instr.makeFunc fn first cap).run Try.prog w = .ok (.func fn first cap) w := fun _ _ _ _ => rfl
      have hen : ∀ args w, (callFunc 39 args).run Try.prog w = .ok (.enter 39 args) w := enters_of Try.func39 (by kernel_rfl) rfl
      have qt := st2.t.cell
      have HST : Hid (_ ∧ _ ∧ _) := And.intro st2 (And.intro hI2 r2)
      have HG2 : Hid (Below W.heap.size W W2) := (HG0.out.trans (gq.mono HG0.out.size)).trans (g2.mono (Nat.le_trans HG0.out.size gq.size))
      have HSQ : Hid (W.heap.size < Wq.heap.size) := by have := HSZ.out; have := gq.size; exact (by omega : W.heap.size < Wq.heap.size)
      have HIR : Hid (¬ Blk R vs Wq.heap.size) := hIR
      clear g1 g2 i0 i2 stq hsq rq st2 hs2 r2 hI2 hIR hvI hvd gq hWq h0 hL HST0 HG0 HDV HBL H0 e1 e2 y0 y1 pg pw po
      go_wp2_with (fail)
      refine (HC.out _ (Below.refl _ _)).mono ?_
      rintro e W3 ⟨rfl, i3, k3, g3⟩
      obtain ⟨st2, hI2, r2⟩ := HST.out
      have st3 : St bS bR bK bW bA b1 b2 bT bG bO R _ n stop _ W3 m false := ⟨bgrow st2.s g3 (by rintro (h | h); exact hI2 _ (by simp [IsBox]) h; have := HD.out; unfold Ord at this; omega), bgrow st2.r g3 (by rintro (h | h); exact hI2 _ (by simp [IsBox]) h; have := HD.out; unfold Ord at this; omega), k3, bgrow st2.w g3 (by rintro (h | h); exact hI2 _ (by simp [IsBox]) h; have := HD.out; unfold Ord at this; omega), bgrow st2.a g3 (by rintro (h | h); exact hI2 _ (by simp [IsBox]) h; have := HD.out; unfold Ord at this; omega), bgrow st2.t g3 (by rintro (h | h); exact hI2 _ (by simp [IsBox]) h; have := HD.out; unfold Ord at this; omega), bgrow st2.g g3 (by rintro (h | h); exact hI2 _ (by simp [IsBox]) h; have := HD.out; unfold Ord at this; omega), bgrow st2.o g3 (by rintro (h | h); exact hI2 _ (by simp [IsBox]) h; have := HD.out; unfold Ord at this; omega), bgrow st2.c1 g3 (by rintro (h | h); exact hI2 _ (by simp [IsBox]) h; have := HD.out; unfold Ord at this; omega), bgrow st2.c2 g3 (by rintro (h | h); exact hI2 _ (by simp [IsBox]) h; have := HD.out; unfold Ord at this; omega)⟩
      have r3 : Rec B W3 R vs L := r2.grow g3 (by rintro k hk (rfl | rfl); exact HIR.out hk; exact st2.not_blk r2 _ (by simp [IsBox]) hk)
      have ci3 := i3.cell
      have ck3 := st3.k.cell
      have fk3 := st3.k.frozen
      obtain ⟨W4, hW4⟩ : ∃ W4, W3.setCell ⟨bK, 0, none⟩ (.bool true) = W4 := ⟨_, rfl⟩
      have st4 := st3.put_k HD.out
      have g4 : Grow (fun k => k = Wq.heap.size ∨ k = bK) W2 (W3.setCell ⟨bK, 0, none⟩ (.bool true)) := grow_set g3 (.inl (.inr rfl)) _ _
      have r4 : Rec B (W3.setCell ⟨bK, 0, none⟩ (.bool true)) R vs L := r2.grow g4 (by rintro k hk (rfl | rfl); exact HIR.out hk; exact st2.not_blk r2 _ (by simp [IsBox]) hk)
      rw [hW4] at st4 g4 r4
      have cr4 := st4.r.cell
      have HST4 : Hid (_ ∧ _) := And.intro st4 r4
      have HG4 : Hid (Grow (fun k => k = Wq.heap.size ∨ k = bK) W2 W4) := g4
      clear st2 hI2 r2 st3 r3 g3 i3 k3 st4 g4 r4 HST HC
      go_wp2_with (fail)
      refine (rOpx_any B R vs L 9 W4 HST4.out.2 (by have := hlL.out; omega)).mono ?_
      rintro e W5 ⟨rfl, vs5, r5, g5, s5, hv5⟩
      have st5 := HST4.out.1.grow g5 (HST4.out.1.not_blk HST4.out.2)
      have cg5 := st5.g.cell
      have fg5 := st5.g.frozen
      obtain ⟨W6, hW6⟩ : ∃ W6, W5.setCell ⟨bG, 0, none⟩ (.int .i64 (m + 1)) = W6 := ⟨_, rfl⟩
      have st6 := st5.put_g HD.out (m + 1)
      have g6 : Grow (fun k => k = bG ∨ k = bO ∨ Blk R vs k) W4 (W5.setCell ⟨bG, 0, none⟩ (.int .i64 (m + 1))) := grow_set (g5.mono (fun k h => .inr (.inr h))) (.inl (.inl rfl)) _ _
      have r6 : Rec B (W5.setCell ⟨bG, 0, none⟩ (.int .i64 (m + 1))) R vs5 (L ++ [(3, 9)]) := r5.grow (S := fun k => k = bG) (grow_set (S := fun k => k = bG) (grow_refl _ _) (.inl rfl) _ _) (by rintro k hk rfl; exact st5.not_blk r5 _ (by simp [IsBox]) hk)
      rw [hW6] at st6 g6 r6
      have cg6 := st6.g.cell
      have cs6 := st6.s.cell
      have ca6 := st6.a.cell
      have ck6 := st6.k.cell
      have co6 := st6.o.cell
      have fo6 := st6.o.frozen
      obtain ⟨W7, hW7⟩ : ∃ W7, W6.setCell ⟨bO, 0, none⟩ (.bool true) = W7 := ⟨_, rfl⟩
      have st7 := st6.put_o HD.out (true)
      have g7 : Grow (fun k => k = bG ∨ k = bO ∨ Blk R vs k) W4 (W6.setCell ⟨bO, 0, none⟩ (.bool true)) := grow_set g6 (.inl (.inr (.inl rfl))) _ _
      have r7 : Rec B (W6.setCell ⟨bO, 0, none⟩ (.bool true)) R vs5 (L ++ [(3, 9)]) := r6.grow (S := fun k => k = bO) (grow_set (S := fun k => k = bO) (grow_refl _ _) (.inl rfl) _ _) (by rintro k hk rfl; exact st6.not_blk r6 _ (by simp [IsBox]) hk)
      rw [hW7] at st7 g7 r7
      have co7 := st7.o.cell
      have s7 : Sl W7 vs 2 (evC L) L.length := by rw [← hW7, ← hW6]; exact sl_grow (S := fun k => k = bG ∨ k = bO) (grow_set (S := fun k => k = bG ∨ k = bO) (grow_set (S := fun k => k = bG ∨ k = bO) (grow_refl _ _) (.inl (.inl rfl)) _ _) (.inl (.inr rfl)) _ _) s5 (by rintro k hk (rfl | rfl); exact HST4.out.1.not_blk HST4.out.2 _ (by simp [IsBox]) (.inr hk); exact HST4.out.1.not_blk HST4.out.2 _ (by simp [IsBox]) (.inr hk))
      have H7 : Hid (_ ∧ _ ∧ _ ∧ _) := And.intro st7 (And.intro g7 (And.intro r7 s7))
      have HV5 : Hid (vs5.ownBlock = vs.ownBlock ∨ ∃ g, vs5.ownBlock = some g ∧ W4.heap.size ≤ g) := hv5
      clear st5 r5 g5 hv5 st6 g6 r6 st7 g7 r7 s5 s7 HST4
      go_wp2
      go_ret
      obtain ⟨st7, g7, r7, s7⟩ := H7.out
      refine ⟨rfl, vs5, st7, r7, s7, ?_, ?_⟩
      · have ga : Grow (fun k => k = bK ∨ k = bG ∨ k = bO ∨ Blk R vs k) W W4 := by
          refine ⟨HG4.out.os.trans HG2.out.os, HG4.out.tape.trans HG2.out.tape, HG4.out.output.trans HG2.out.output, Nat.le_trans HG2.out.size HG4.out.size, fun k hk hn => ?_⟩
          refine (HG4.out.block k (Nat.lt_of_lt_of_le hk HG2.out.size) ?_).trans (HG2.out.block k hk)
          rintro (rfl | rfl)
          · have := HSQ.out
            omega
          · exact hn (.inl rfl)
        exact ga.trans (g7.mono (fun k h => .inr h))
      · rcases HV5.out with h | ⟨g, h, hg⟩
        · exact .inl h
        · exact .inr ⟨g, h, Nat.le_trans HG2.out.size (Nat.le_trans HG4.out.size hg)⟩
    · go_enter Try.func24, Try.ntmps24
      go_wp2
      go_quiet (fail)
      generalize hWq : W0.drewN nq = Wq
      have gq : Below W0.heap.size W0 Wq := by rw [← hWq]; exact dn nq
      have stq := HST0.out.1.below gq
      have hsq := sl_below gq HST0.out.2.1
      have rq := HST0.out.2.2.below gq
      have h0 := H0.out
      have hL := hlL.out
      have i0 := Boxed.new Wq 3 (.int .i64 0)
      have g1 : Below Wq.heap.size Wq (Wq.alloc (.cells #[.int .i64 0] 3)) := (Below.refl _ _).alloc (Nat.le_refl _) _
      obtain ⟨W1, hW1⟩ : ∃ W1, Wq.alloc (.cells #[.int .i64 0] 3) = W1 := ⟨_, rfl⟩
      rw [hW1] at i0 g1
      have ci0 := i0.cell
      have fi0 := i0.frozen
      have g2 : Below Wq.heap.size Wq (W1.setCell ⟨Wq.heap.size, 0, none⟩ (.int .i64 0)) := g1.setCell (p := ⟨Wq.heap.size, 0, none⟩) (Nat.le_refl _) _
      have i2 := i0.set (.int .i64 0)
      obtain ⟨W2, hW2⟩ : ∃ W2, W1.setCell ⟨Wq.heap.size, 0, none⟩ (.int .i64 0) = W2 := ⟨_, rfl⟩
      rw [hW2] at g2 i2
      have st2 := stq.below g2
      have hs2 := sl_below g2 hsq
      have r2 := rq.below g2
      have hI2 : ∀ k, IsBox bS bR bK bW bA b1 b2 bT bG bO k → k ≠ Wq.heap.size := fun k hk e => by have := stq.lt k hk; omega
      have hIR : ¬ Blk R vs Wq.heap.size := fun h => by have := rq.lt _ h; omega
      have hvI : vb ≠ Wq.heap.size := by have := gq.size; have := HG0.out.size; have := HBL.out; omega
      have hvd := HDV.out
      have HC : Hid (∀ Wc, Below W2.heap.size W2 Wc → Calls Try.prog 39 #[.func (.func 25) #[] #[.pointer (some ⟨Wq.heap.size, 0, none⟩), .pointer (some ⟨bK, 0, none⟩), .pointer (some ⟨bW, 0, none⟩)], .pointer (some ⟨b1, 0, none⟩), .pointer (some ⟨b2, 0, none⟩)] Wc fun e W' => e = .returned (.tuple #[]) ∧ Boxed W' Wq.heap.size 3 (.int .i64 1) ∧ Boxed W' bK 4 (.bool true) ∧ Grow (fun k => k = Wq.heap.size ∨ k = bK) W2 W') := by
        intro Wc hbc
        have stc := st2.below hbc
        refine (since1_call 25 _ (enters_of Try.func25 (by kernel_rfl) rfl) b1 b2 (.pointer (some ⟨R, 0, none⟩)) vs n L (by omega)
          (fun pre X => pre = [] ∧ Below W2.heap.size W2 X) (fun _ X => Boxed X Wq.heap.size 3 (.int .i64 1) ∧ Boxed X bK 4 (.bool true) ∧ Grow (fun k => k = Wq.heap.size ∨ k = bK) W2 X) Wc ?_ ?_ ?_ (r2.below hbc).opt stc.c1.cell stc.c2.cell ⟨rfl, hbc⟩).mono ?_
        · rintro pre X o ⟨rfl, hb⟩
          exact ⟨rfl, hb.alloc hb.size _⟩
        · rintro pre X ⟨_, hb⟩
          exact (r2.below hb).opt.sl
        · rintro pre ⟨z1, z2⟩ X ⟨rfl, hb⟩ _ hget
          rw [List.length_nil, h0] at hget
          refine (sn11_any Wq.heap.size bK bW _ wt z1 z2 X (bbelow i2 hb) (bbelow st2.k hb) (bbelow st2.w hb) (sl_below hb hs2) hget (fun k hk => by cases hk; exact ⟨hvI, fun h => hvd.1 (.inr (.inr (.inl h)))⟩)).mono ?_
          rintro e X' ⟨rfl, h1, h2, h3⟩
          exact .inr ⟨rfl, h1, h2, (Grow.of_below hb).trans h3⟩
        · rintro e W' ⟨rfl, ⟨hn, _⟩ | ⟨_, _, h⟩⟩
          · rw [hn, List.getElem?_nil] at h0
            have := List.getElem?_eq_none_iff.1 h0.symm
            omega
          · exact ⟨rfl, h⟩
      have hmf : ∀ (fn : Fn) (first cap : Array Value) (w : World), (Instr.makeFunc fn first cap).run Try.prog w = .ok (.func fn first cap) w := fun _ _ _ _ => rfl
      have hen : ∀ args w, (callFunc 39 args).run Try.prog w = .ok (.enter 39 args) w := enters_of Try.func39 (by kernel_rfl) rfl
      have qt := st2.t.cell
      have HST : Hid (_ ∧ _ ∧ _) := And.intro st2 (And.intro hI2 r2)
      have HG2 : Hid (Below W.heap.size W W2) := (HG0.out.trans (gq.mono HG0.out.size)).trans (g2.mono (Nat.le_trans HG0.out.size gq.size))
      have HSQ : Hid (W.heap.size < Wq.heap.size) := by have := HSZ.out; have := gq.size; exact (by omega : W.heap.size < Wq.heap.size)
      have HIR : Hid (¬ Blk R vs Wq.heap.size) := hIR
      clear g1 g2 i0 i2 stq hsq rq st2 hs2 r2 hI2 hIR hvI hvd gq hWq h0 hL HST0 HG0 HDV HBL H0 e1 e2 y0 y1 pg pw po
      go_wp2_with (fail)
      refine (HC.out _ (Below.refl _ _)).mono ?_
      rintro e W3 ⟨rfl, i3, k3, g3⟩
      obtain ⟨st2, hI2, r2⟩ := HST.out
      have st3 : St bS bR bK bW bA b1 b2 bT bG bO R _ n stop _ W3 m false := ⟨bgrow st2.s g3 (by rintro (h | h); exact hI2 _ (by simp [IsBox]) h; have := HD.out; unfold Ord at this; omega), bgrow st2.r g3 (by rintro (h | h); exact hI2 _ (by simp [IsBox]) h; have := HD.out; unfold Ord at this; omega), k3, bgrow st2.w g3 (by rintro (h | h); exact hI2 _ (by simp [IsBox]) h; have := HD.out; unfold Ord at this; omega), bgrow st2.a g3 (by rintro (h | h); exact hI2 _ (by simp [IsBox]) h; have := HD.out; unfold Ord at this; omega), bgrow st2.t g3 (by rintro (h | h); exact hI2 _ (by simp [IsBox]) h; have := HD.out; unfold Ord at this; omega), bgrow st2.g g3 (by rintro (h | h); exact hI2 _ (by simp [IsBox]) h; have := HD.out; unfold Ord at this; omega), bgrow st2.o g3 (by rintro (h | h); exact hI2 _ (by simp [IsBox]) h; have := HD.out; unfold Ord at this; omega), bgrow st2.c1 g3 (by rintro (h | h); exact hI2 _ (by simp [IsBox]) h; have := HD.out; unfold Ord at this; omega), bgrow st2.c2 g3 (by rintro (h | h); exact hI2 _ (by simp [IsBox]) h; have := HD.out; unfold Ord at this; omega)⟩
      have r3 : Rec B W3 R vs L := r2.grow g3 (by rintro k hk (rfl | rfl); exact HIR.out hk; exact st2.not_blk r2 _ (by simp [IsBox]) hk)
      have ci3 := i3.cell
      have ck3 := st3.k.cell
      have fk3 := st3.k.frozen
      obtain ⟨W4, hW4⟩ : ∃ W4, W3.setCell ⟨bK, 0, none⟩ (.bool true) = W4 := ⟨_, rfl⟩
      have st4 := st3.put_k HD.out
      have g4 : Grow (fun k => k = Wq.heap.size ∨ k = bK) W2 (W3.setCell ⟨bK, 0, none⟩ (.bool true)) := grow_set g3 (.inl (.inr rfl)) _ _
      have r4 : Rec B (W3.setCell ⟨bK, 0, none⟩ (.bool true)) R vs L := r2.grow g4 (by rintro k hk (rfl | rfl); exact HIR.out hk; exact st2.not_blk r2 _ (by simp [IsBox]) hk)
      rw [hW4] at st4 g4 r4
      have cr4 := st4.r.cell
      have HST4 : Hid (_ ∧ _) := And.intro st4 r4
      have HG4 : Hid (Grow (fun k => k = Wq.heap.size ∨ k = bK) W2 W4) := g4
      clear st2 hI2 r2 st3 r3 g3 i3 k3 st4 g4 r4 HST HC
      go_wp2_with (fail)
      refine (rOpx_any B R vs L 9 W4 HST4.out.2 (by have := hlL.out; omega)).mono ?_
      rintro e W5 ⟨rfl, vs5, r5, g5, s5, hv5⟩
      have st5 := HST4.out.1.grow g5 (HST4.out.1.not_blk HST4.out.2)
      have cg5 := st5.g.cell
      have fg5 := st5.g.frozen
      obtain ⟨W6, hW6⟩ : ∃ W6, W5.setCell ⟨bG, 0, none⟩ (.int .i64 (m + 1)) = W6 := ⟨_, rfl⟩
      have st6 := st5.put_g HD.out (m + 1)
      have g6 : Grow (fun k => k = bG ∨ k = bO ∨ Blk R vs k) W4 (W5.setCell ⟨bG, 0, none⟩ (.int .i64 (m + 1))) := grow_set (g5.mono (fun k h => .inr (.inr h))) (.inl (.inl rfl)) _ _
      have r6 : Rec B (W5.setCell ⟨bG, 0, none⟩ (.int .i64 (m + 1))) R vs5 (L ++ [(3, 9)]) := r5.grow (S := fun k => k = bG) (grow_set (S := fun k => k = bG) (grow_refl _ _) (.inl rfl) _ _) (by rintro k hk rfl; exact st5.not_blk r5 _ (by simp [IsBox]) hk)
      rw [hW6] at st6 g6 r6
      have cg6 := st6.g.cell
      have cs6 := st6.s.cell
      have ca6 := st6.a.cell
      have ck6 := st6.k.cell
      have co6 := st6.o.cell
      have fo6 := st6.o.frozen
      obtain ⟨W7, hW7⟩ : ∃ W7, W6.setCell ⟨bO, 0, none⟩ (.bool false) = W7 := ⟨_, rfl⟩
      have st7 := st6.put_o HD.out (false)
      have g7 : Grow (fun k => k = bG ∨ k = bO ∨ Blk R vs k) W4 (W6.setCell ⟨bO, 0, none⟩ (.bool false)) := grow_set g6 (.inl (.inr (.inl rfl))) _ _
      have r7 : Rec B (W6.setCell ⟨bO, 0, none⟩ (.bool false)) R vs5 (L ++ [(3, 9)]) := r6.grow (S := fun k => k = bO) (grow_set (S := fun k => k = bO) (grow_refl _ _) (.inl rfl) _ _) (by rintro k hk rfl; exact st6.not_blk r6 _ (by simp [IsBox]) hk)
      rw [hW7] at st7 g7 r7
      have co7 := st7.o.cell
      have s7 : Sl W7 vs 2 (evC L) L.length := by rw [← hW7, ← hW6]; exact sl_grow (S := fun k => k = bG ∨ k = bO) (grow_set (S := fun k => k = bG ∨ k = bO) (grow_set (S := fun k => k = bG ∨ k = bO) (grow_refl _ _) (.inl (.inl rfl)) _ _) (.inl (.inr rfl)) _ _) s5 (by rintro k hk (rfl | rfl); exact HST4.out.1.not_blk HST4.out.2 _ (by simp [IsBox]) (.inr hk); exact HST4.out.1.not_blk HST4.out.2 _ (by simp [IsBox]) (.inr hk))
      have H7 : Hid (_ ∧ _ ∧ _ ∧ _) := And.intro st7 (And.intro g7 (And.intro r7 s7))
      have HV5 : Hid (vs5.ownBlock = vs.ownBlock ∨ ∃ g, vs5.ownBlock = some g ∧ W4.heap.size ≤ g) := hv5
      clear st5 r5 g5 hv5 st6 g6 r6 st7 g7 r7 s5 s7 HST4
      go_wp2
      go_ret
      obtain ⟨st7, g7, r7, s7⟩ := H7.out
      refine ⟨rfl, vs5, st7, r7, s7, ?_, ?_⟩
      · have ga : Grow (fun k => k = bK ∨ k = bG ∨ k = bO ∨ Blk R vs k) W W4 := by
          refine ⟨HG4.out.os.trans HG2.out.os, HG4.out.tape.trans HG2.out.tape, HG4.out.output.trans HG2.out.output, Nat.le_trans HG2.out.size HG4.out.size, fun k hk hn => ?_⟩
          refine (HG4.out.block k (Nat.lt_of_lt_of_le hk HG2.out.size) ?_).trans (HG2.out.block k hk)
          rintro (rfl | rfl)
          · have := HSQ.out
            omega
          · exact hn (.inl rfl)
        exact ga.trans (g7.mono (fun k h => .inr h))
      · rcases HV5.out with h | ⟨g, h, hg⟩
        · exact .inl h
        · exact .inr ⟨g, h, Nat.le_trans HG2.out.size (Nat.le_trans HG4.out.size hg)⟩
end Go.Proofs.Ytigapdfefapdgaa
