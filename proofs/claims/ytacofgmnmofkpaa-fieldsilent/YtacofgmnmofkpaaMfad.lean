import Derived.Test.YtacofgmnmofkpaaMfac
namespace Go.Proofs.Ytacofgmnmofkpaa
set_option linter.unusedSimpArgs false
open Go.ChangeShapes Go.WideShapes Go.ChangeAt Go.RowKit Go.Pin Go.Fld
/-- x x f -/
def sqm (x f : List Int) : List Int := prod (prod x x) f
def pw (a : List Int) : Nat → List Int
  | 0 => a
  | k + 1 => sqm (pw a k) a
def one5 : List Int := [1, 0, 0, 0, 0]
def fac (a : List Int) (k : Nat) : List Int := if k = 0 ∨ k = 2 then one5 else a
def qw (a : List Int) : Nat → List Int
  | 0 => pw a 249
  | k + 1 => sqm (qw a k) (fac a k)
theorem one_lim : Lim one5 := ⟨rfl, by decide⟩
theorem fac_lim {a : List Int} (h : Lim a) (k : Nat) : Lim (fac a k) := by unfold fac; split; exact one_lim; exact h
theorem sqm_lim {x f : List Int} (hx : Lim x) (hf : Lim f) : Lim (sqm x f) := prod_lim (prod_lim hx hx) hf
theorem pw_lim {a : List Int} (h : Lim a) : ∀ k, Lim (pw a k)
  | 0 => h
  | k + 1 => sqm_lim (pw_lim h k) h
theorem qw_lim {a : List Int} (h : Lim a) : ∀ k, Lim (qw a k)
  | 0 => pw_lim h 249
  | k + 1 => sqm_lim (qw_lim h k) (fac_lim h k)
theorem VI_five (x0 x1 x2 x3 x4 : Int) : VI .u64 [x0, x1, x2, x3, x4] = #[.int .u64 x0, .int .u64 x1, .int .u64 x2, .int .u64 x3, .int .u64 x4] := rfl
/-- Invert's boxes -/
structure IW (n X : Nat) (W1 : World) (a x : List Int) (wr : World) : Prop extends BW n W1 a wr where
  hn : n + 2 ≤ X
  hX : W1.heap.size ≤ X
  hx : rowAt wr X x 47
theorem BW.below {n : Nat} {W1 wr w2 : World} {a : List Int} (h : BW n W1 a wr) (hb : Below wr.heap.size wr w2) : BW n W1 a w2 :=
  ⟨h.grow.bel hb, Nat.le_trans h.sz hb.size, row_below h.ha hb, row_below h.hr hb⟩
theorem IW.below {n X : Nat} {W1 wr w2 : World} {a x : List Int} (h : IW n X W1 a x wr) (hb : Below wr.heap.size wr w2) : IW n X W1 a x w2 :=
  ⟨h.toBW.below hb, h.hn, h.hX, row_below h.hx hb⟩
theorem IW.set {n X : Nat} {W1 wr : World} {a x : List Int} (h : IW n X W1 a x wr) (i : Nat) (v : Int) : IW n X W1 a (x.set i v) (wr.setCell ⟨X, i, none⟩ (.int .u64 v)) :=
  have := h.hn
  ⟨⟨h.grow.setCell (.inr h.hX) _, by simpa using h.sz, row_other h.ha (by show n ≠ X; omega) _, row_other h.hr (by show n + 1 ≠ X; omega) _⟩, h.hn, h.hX, row_set h.hx _ _⟩
theorem IW.set5 {n X : Nat} {W1 wr : World} {a x : List Int} (h : IW n X W1 a x wr) (h5 : x.length = 5) (x0 x1 x2 x3 x4 : Int) : IW n X W1 a [x0, x1, x2, x3, x4] (((((wr.setCell ⟨X, 0, none⟩ (.int .u64 x0)).setCell ⟨X, 1, none⟩ (.int .u64 x1)).setCell ⟨X, 2, none⟩ (.int .u64 x2)).setCell ⟨X, 3, none⟩ (.int .u64 x3)).setCell ⟨X, 4, none⟩ (.int .u64 x4)) := by
  have := ((((h.set 0 x0).set 1 x1).set 2 x2).set 3 x3).set 4 x4
  obtain ⟨y0, y1, y2, y3, y4, rfl⟩ := five h5
  exact this
theorem IW.drew {n X : Nat} {W1 wr : World} {a x : List Int} (h : IW n X W1 a x wr) : IW n X W1 a x wr.drew := ⟨⟨h.grow.drew, h.sz, h.ha, h.hr⟩, h.hn, h.hX, h.hx⟩
theorem BW.next {n : Nat} {W1 : World} {a : List Int} (h : BW n W1 a W1) : IW n W1.heap.size W1 a a (W1.alloc (.cells (VI .u64 a) 47)) :=
  ⟨h.below ((Below.refl _ _).alloc (Nat.le_refl _) _), h.sz, Nat.le_refl _, by simp only [rowAt, heap_alloc_any, if_true]⟩
theorem cells5 {w : World} {g : Nat} {x0 x1 x2 x3 x4 : Int} {T : TypeId} (h : rowAt w g [x0, x1, x2, x3, x4] T) : w.cell? ⟨g, 0, none⟩ = some (.int .u64 x0) ∧ w.cell? ⟨g, 1, none⟩ = some (.int .u64 x1) ∧ w.cell? ⟨g, 2, none⟩ = some (.int .u64 x2) ∧ w.cell? ⟨g, 3, none⟩ = some (.int .u64 x3) ∧ w.cell? ⟨g, 4, none⟩ = some (.int .u64 x4) :=
  ⟨row_cell h (i := 0) (by simp), row_cell h (i := 1) (by simp), row_cell h (i := 2) (by simp), row_cell h (i := 3) (by simp), row_cell h (i := 4) (by simp)⟩
set_option maxRecDepth 100000 in
theorem idx25 (a0 a1 a2 a3 a4 : Int) (w : World) (k : Nat) (hk : k < 5) :
    (Instr.index 111 (.agg #[.int .u64 1, .int .u64 0, .int .u64 0, .int .u64 0, .int .u64 0, .int .u64 a0, .int .u64 a1, .int .u64 a2, .int .u64 a3, .int .u64 a4, .int .u64 1, .int .u64 0, .int .u64 0, .int .u64 0, .int .u64 0, .int .u64 a0, .int .u64 a1, .int .u64 a2, .int .u64 a3, .int .u64 a4, .int .u64 a0, .int .u64 a1, .int .u64 a2, .int .u64 a3, .int .u64 a4]) (.int .i64 (k : Int))).run Try.prog w = .ok (.agg (VI .u64 (fac [a0, a1, a2, a3, a4] k))) w := by
  have h5 : k = 0 ∨ k = 1 ∨ k = 2 ∨ k = 3 ∨ k = 4 := by omega
  rcases h5 with rfl | rfl | rfl | rfl | rfl <;> rfl
/-- the two calls of a round -/
theorem two_calls {x f : List Int} (hx : Lim x) (hf : Lim f) : ∃ x0 x1 x2 x3 x4 f0 f1 f2 f3 f4 q0 q1 q2 q3 q4 t0 t1 t2 t3 t4, Hid (x = [x0, x1, x2, x3, x4]) ∧ Hid (f = [f0, f1, f2, f3, f4]) ∧ Hid (sqm x f = [t0, t1, t2, t3, t4]) ∧
    Hid (∀ w, Calls Try.prog 59 #[.agg #[.int .u64 x0, .int .u64 x1, .int .u64 x2, .int .u64 x3, .int .u64 x4], .agg #[.int .u64 x0, .int .u64 x1, .int .u64 x2, .int .u64 x3, .int .u64 x4]] w fun e w' => e = .returned (.agg #[.int .u64 q0, .int .u64 q1, .int .u64 q2, .int .u64 q3, .int .u64 q4]) ∧ Below w.heap.size w w') ∧
    Hid (∀ w, Calls Try.prog 59 #[.agg #[.int .u64 q0, .int .u64 q1, .int .u64 q2, .int .u64 q3, .int .u64 q4], .agg #[.int .u64 f0, .int .u64 f1, .int .u64 f2, .int .u64 f3, .int .u64 f4]] w fun e w' => e = .returned (.agg #[.int .u64 t0, .int .u64 t1, .int .u64 t2, .int .u64 t3, .int .u64 t4]) ∧ Below w.heap.size w w') := by
  obtain ⟨q0, q1, q2, q3, q4, hq⟩ := five (prod_lim hx hx).len
  obtain ⟨t0, t1, t2, t3, t4, ht⟩ := five (sqm_lim hx hf).len
  have h1 := fun w => product_any x x hx hx w
  have h2 := fun w => product_any (prod x x) f (prod_lim hx hx) hf w
  rw [hq] at h1 h2
  have ht' : prod [q0, q1, q2, q3, q4] f = [t0, t1, t2, t3, t4] := by rw [← hq]; exact ht
  rw [ht'] at h2
  obtain ⟨x0, x1, x2, x3, x4, rfl⟩ := five hx.len
  obtain ⟨f0, f1, f2, f3, f4, rfl⟩ := five hf.len
  exact ⟨x0, x1, x2, x3, x4, f0, f1, f2, f3, f4, q0, q1, q2, q3, q4, t0, t1, t2, t3, t4, rfl, rfl, ht, h1, h2⟩
set_option maxRecDepth 100000 in
set_option maxHeartbeats 8000000 in
theorem invert_any (rv : Value) (a : List Int) (ha : Lim a) (w : World) (Q : World → World → Prop) (hq : Opc rv 6 w Q) :
    Calls Try.prog 44 #[rv, .agg (VI .u64 a)] w fun e w' => e = .returned (.agg (VI .u64 (qw a 5))) ∧ Opd Q w w' := by
  have HA : Hid (Lim a) := ha
  have HQ : Hid (Opc rv 6 w Q) := hq
  obtain ⟨r1, r2, hs, hbw⟩ := alloc2_rows w a
  obtain ⟨W, hW⟩ : ∃ W, (w.alloc (.cells (VI .u64 a) 47)).alloc (.cells (VI .u64 (List.replicate 5 0)) 47) = W := ⟨_, rfl⟩
  have hW' : (w.alloc (.cells (VI .u64 a) 47)).alloc (.cells #[.int .u64 0, .int .u64 0, .int .u64 0, .int .u64 0, .int .u64 0] 47) = W := hW
  rw [hW] at r1 r2 hs hbw
  have HS : Hid (W.heap.size = w.heap.size + 2) := hs
  have HBW : Hid (Below w.heap.size w W) := hbw
  have HAW : Hid (∀ W1, Grow (fun k => k < w.heap.size) W W1 → BW w.heap.size W1 a W1) := fun W1 hg => BW.start r1 r2 hs hg
  clear hW r1 r2 hs hbw hq ha
  go_enter Try.func44, Try.ntmps44
  go_wp2_with (go_at_call 29; refine (HQ.out.call _ HBW.out).mono ?_; rintro e W1 ⟨rfl, hQ⟩; have hp := HAW.out W1 (HQ.out.keep _ _ HBW.out hQ); obtain ⟨a0, a1, a2, a3, a4, hae, ha0, ha1, ha2, ha3, ha4, _, _, _, _, _⟩ := row5 hp.ha HA.out.len; have HP : Hid (BW w.heap.size W1 a W1) := hp; have HD : Hid (∀ w', Grow (fun k => w.heap.size ≤ k ∧ k < w.heap.size + 2) W1 w' → Opd Q w w') := (fun w' hg => ⟨W, W1, HBW.out, hQ, hg.mono (fun k hk => by rw [HS.out]; exact hk)⟩); clear hp HAW hQ hW' HQ HBW HS; obtain ⟨X, hX⟩ : ∃ X, W1.heap.size = X := ⟨_, rfl⟩)
  have HIW : Hid (IW w.heap.size X W1 a (pw a 0) (W1.alloc (.cells #[.int .u64 a0, .int .u64 a1, .int .u64 a2, .int .u64 a3, .int .u64 a4] 47))) := by
    rw [← VI_five, ← hae.out, ← hX]
    exact HP.out.next
  clear HP hX ha0 ha1 ha2 ha3 ha4
  go_loopw [12] (fun i w' => ∃ k : Nat, k ≤ 249 ∧ i = .int .i64 k ∧ IW w.heap.size X W1 a (pw a k) w') (fun i _ => 249 - (intOf i).toNat)
  case atStart => exact ⟨0, Nat.zero_le _, rfl, HIW.out⟩
  case round =>
    clear HIW
    obtain ⟨k, hk, rfl, hp⟩ := hrel
    have HP : Hid (IW w.heap.size X W1 a (pw a k) wr) := hp
    by_cases hlt : k < 249
    · obtain ⟨x0, x1, x2, x3, x4, f0, f1, f2, f3, f4, q0, q1, q2, q3, q4, t0, t1, t2, t3, t4, hxe, hfe, hte, HC1, HC2⟩ := two_calls (pw_lim HA.out k) HA.out
      obtain ⟨hx0, hx1, hx2, hx3, hx4⟩ := cells5 (hxe.out ▸ hp.hx)
      have hf := hp.ha
      rw [hfe.out] at hf
      obtain ⟨ha0, ha1, ha2, ha3, ha4⟩ := cells5 hf
      have HF : Hid (rowAt wr w.heap.size [f0, f1, f2, f3, f4] 47) := hf
      have HX : Hid (rowAt wr X (pw a k) 47) := hp.hx
      have HXL : Hid ((pw a k).length = 5) := (pw_lim HA.out k).len
      have HN : Hid (∀ w3, Below wr.heap.size wr w3 → IW w.heap.size X W1 a (pw a (k + 1)) (((((w3.setCell ⟨X, 0, none⟩ (.int .u64 t0)).setCell ⟨X, 1, none⟩ (.int .u64 t1)).setCell ⟨X, 2, none⟩ (.int .u64 t2)).setCell ⟨X, 3, none⟩ (.int .u64 t3)).setCell ⟨X, 4, none⟩ (.int .u64 t4))) := fun w3 hb => by
        rw [show pw a (k + 1) = [t0, t1, t2, t3, t4] from hte.out]
        exact (HP.out.below hb).set5 HXL.out _ _ _ _ _
      have HNE : Hid (w.heap.size ≠ X) := by
        have := hp.hn
        show w.heap.size ≠ X
        omega
      clear hp hf hxe hfe hte HP
      go_wp2
      refine wp_region_held_drew (S := fun Y => rowAt Y w.heap.size [f0, f1, f2, f3, f4] 47) (by kernel_rfl) (HF.out) (fun hH => ?_)
      refine wpAnyH_take (i := 3) (v := .agg #[.int .u64 f0, .int .u64 f1, .int .u64 f2, .int .u64 f3, .int .u64 f4]) rfl (by kernel_rfl) (by kernel_rfl) (by kernel_rfl) (fun _ _ _ h => h) (Or.inl ⟨by kernel_rfl, fun W hW => ?_⟩) hH ?_
      · obtain ⟨hg0, hg1, hg2, hg3, hg4⟩ := cells5 hW; go_simp
      try simp only [Act.put, List.setIfInBounds_toArray, List.set_cons_zero, List.set_cons_succ]
      refine wpAnyH_ready (rs := [0, 1]) (by kernel_rfl) (by simp) (AllReadyH.cons rfl (fun K' hK => ?_) (AllReadyH.cons rfl (fun K' hK => ?_) AllReadyH.nil))
      · go_simp
        refine hK.out _ _ hH (fun hH => ?_)
        clear hK K'
        try simp only [Act.put, List.setIfInBounds_toArray, List.set_cons_zero, List.set_cons_succ]
        refine wpAnyH_ready (rs := [1]) (by kernel_rfl) (by simp) (AllReadyH.cons rfl (fun K' hK => ?_) AllReadyH.nil)
        go_simp
        refine hK.out _ _ hH (fun hH => ?_)
        clear hK K'
        try simp only [Act.put, List.setIfInBounds_toArray, List.set_cons_zero, List.set_cons_succ]
        refine wpAnyH_ready (rs := [2]) (by kernel_rfl) (by simp) (AllReadyH.cons rfl (fun K' hK => ?_) AllReadyH.nil)
        go_simp
        refine (HC1.out _).mono ?_
        rintro e w2 ⟨rfl, hb2⟩
        have HX2 : Hid (rowAt w2 X (pw a k) 47) := row_below (w := wr.drew) HX.out hb2
        have HB2 : Hid (Below wr.drew.heap.size wr.drew w2) := hb2
        go_wp2_with fail
        refine hK.out _ _ (row_below (w := wr.drew) hH hb2) (fun hH => ?_)
        clear hb2
        clear hK K'
        try simp only [Act.put, List.setIfInBounds_toArray, List.set_cons_zero, List.set_cons_succ]
        refine wpAnyH_ready (rs := [4]) (by kernel_rfl) (by simp) (AllReadyH.cons rfl (fun K' hK => ?_) AllReadyH.nil)
        go_simp
        refine (HC2.out _).mono ?_
        rintro e w3 ⟨rfl, hb3⟩
        obtain ⟨_, _, _, _, _, _, hy0, hy1, hy2, hy3, hy4, hz0, hz1, hz2, hz3, hz4⟩ := row5 (row_below HX2.out hb3) HXL.out
        have HB3 : Hid (Below wr.heap.size wr w3) := ((Below.refl wr.heap.size wr).drew.trans HB2.out).trans (hb3.mono HB2.out.size)
        go_wp2_with fail
        refine hK.out _ _ (row_below hH hb3) (fun hH => ?_)
        clear hb3
        clear hK K'
        try simp only [Act.put, List.setIfInBounds_toArray, List.set_cons_zero, List.set_cons_succ]
        refine wpAnyH_ready (rs := [5]) (by kernel_rfl) (by simp) (AllReadyH.cons rfl (fun K' hK => ?_) AllReadyH.nil)
        go_simp
        refine hK.out _ _ (row_other (row_other (row_other (row_other (row_other hH HNE.out _) HNE.out _) HNE.out _) HNE.out _) HNE.out _) (fun hH => ?_)
        clear hK K'
        try simp only [Act.put, List.setIfInBounds_toArray, List.set_cons_zero, List.set_cons_succ]
        refine wpAnyH_done (by kernel_rfl) ?_ _
        try simp only [Act.put, List.getElem_toArray, List.getElem_cons_succ, List.getElem_cons_zero, List.getElem?_toArray, List.getElem?_cons_succ, List.getElem?_cons_zero, List.setIfInBounds_toArray, List.set_cons_zero, List.set_cons_succ]
        go_wp2
        go_roundw
        case rel => exact ⟨k + 1, by omega, by go_num, HN.out _ HB3.out⟩
        case measure => simp [intOf]; omega
      · go_simp
        refine hK.out _ _ hH (fun hH => ?_)
        clear hK K'
        try simp only [Act.put, List.setIfInBounds_toArray, List.set_cons_zero, List.set_cons_succ]
        refine wpAnyH_ready (rs := [0]) (by kernel_rfl) (by simp) (AllReadyH.cons rfl (fun K' hK => ?_) AllReadyH.nil)
        go_simp
        refine hK.out _ _ hH (fun hH => ?_)
        clear hK K'
        try simp only [Act.put, List.setIfInBounds_toArray, List.set_cons_zero, List.set_cons_succ]
        refine wpAnyH_ready (rs := [2]) (by kernel_rfl) (by simp) (AllReadyH.cons rfl (fun K' hK => ?_) AllReadyH.nil)
        go_simp
        refine (HC1.out _).mono ?_
        rintro e w2 ⟨rfl, hb2⟩
        have HX2 : Hid (rowAt w2 X (pw a k) 47) := row_below (w := wr.drew) HX.out hb2
        have HB2 : Hid (Below wr.drew.heap.size wr.drew w2) := hb2
        go_wp2_with fail
        refine hK.out _ _ (row_below (w := wr.drew) hH hb2) (fun hH => ?_)
        clear hb2
        clear hK K'
        try simp only [Act.put, List.setIfInBounds_toArray, List.set_cons_zero, List.set_cons_succ]
        refine wpAnyH_ready (rs := [4]) (by kernel_rfl) (by simp) (AllReadyH.cons rfl (fun K' hK => ?_) AllReadyH.nil)
        go_simp
        refine (HC2.out _).mono ?_
        rintro e w3 ⟨rfl, hb3⟩
        obtain ⟨_, _, _, _, _, _, hy0, hy1, hy2, hy3, hy4, hz0, hz1, hz2, hz3, hz4⟩ := row5 (row_below HX2.out hb3) HXL.out
        have HB3 : Hid (Below wr.heap.size wr w3) := ((Below.refl wr.heap.size wr).drew.trans HB2.out).trans (hb3.mono HB2.out.size)
        go_wp2_with fail
        refine hK.out _ _ (row_below hH hb3) (fun hH => ?_)
        clear hb3
        clear hK K'
        try simp only [Act.put, List.setIfInBounds_toArray, List.set_cons_zero, List.set_cons_succ]
        refine wpAnyH_ready (rs := [5]) (by kernel_rfl) (by simp) (AllReadyH.cons rfl (fun K' hK => ?_) AllReadyH.nil)
        go_simp
        refine hK.out _ _ (row_other (row_other (row_other (row_other (row_other hH HNE.out _) HNE.out _) HNE.out _) HNE.out _) HNE.out _) (fun hH => ?_)
        clear hK K'
        try simp only [Act.put, List.setIfInBounds_toArray, List.set_cons_zero, List.set_cons_succ]
        refine wpAnyH_done (by kernel_rfl) ?_ _
        try simp only [Act.put, List.getElem_toArray, List.getElem_cons_succ, List.getElem_cons_zero, List.getElem?_toArray, List.getElem?_cons_succ, List.getElem?_cons_zero, List.setIfInBounds_toArray, List.set_cons_zero, List.set_cons_succ]
        go_wp2
        go_roundw
        case rel => exact ⟨k + 1, by omega, by go_num, HN.out _ HB3.out⟩
        case measure => simp [intOf]; omega
    · have hk' : k = 249 := by omega
      subst hk'
      rw [hae.out] at hp
      obtain ⟨ha0, ha1, ha2, ha3, ha4⟩ := cells5 hp.ha
      rw [← hae.out] at hp
      have HQ0 : Hid (IW w.heap.size X W1 a (qw a 0) (wr.alloc (.cells #[.int .u64 1, .int .u64 0, .int .u64 0, .int .u64 0, .int .u64 0] 47))) := hp.below ((Below.refl _ _).alloc (Nat.le_refl _) _)
      have hlt1 : w.heap.size < wr.heap.size := by have := hp.sz; omega
      clear hp HP hlt hk
      rw [show ((249 : Nat) : Int) = 249 from rfl]
      go_wp2
      go_loopw [28] (fun i w' => ∃ k : Nat, k ≤ 5 ∧ i = .int .i64 k ∧ IW w.heap.size X W1 a (qw a k) w') (fun i _ => 5 - (intOf i).toNat)
      case atStart => exact ⟨0, Nat.zero_le _, rfl, HQ0.out⟩
      case round =>
        clear HQ0 ha0 ha1 ha2 ha3 ha4 hlt1
        obtain ⟨k, hk, rfl, hp⟩ := hrel
        have HP : Hid (IW w.heap.size X W1 a (qw a k) wr) := hp
        by_cases hlt : k < 5
        · obtain ⟨x0, x1, x2, x3, x4, f0, f1, f2, f3, f4, q0, q1, q2, q3, q4, t0, t1, t2, t3, t4, hxe, hfe, hte, HC1, HC2⟩ := two_calls (qw_lim HA.out k) (fac_lim HA.out k)
          have hidx := fun W2 => idx25 a0 a1 a2 a3 a4 W2 k hlt
          rw [← hae.out, hfe.out] at hidx
          have hidx' : ∀ W2, (Instr.index 111 (.agg #[.int .u64 1, .int .u64 0, .int .u64 0, .int .u64 0, .int .u64 0, .int .u64 a0, .int .u64 a1, .int .u64 a2, .int .u64 a3, .int .u64 a4, .int .u64 1, .int .u64 0, .int .u64 0, .int .u64 0, .int .u64 0, .int .u64 a0, .int .u64 a1, .int .u64 a2, .int .u64 a3, .int .u64 a4, .int .u64 a0, .int .u64 a1, .int .u64 a2, .int .u64 a3, .int .u64 a4]) (.int .i64 (k : Int))).run Try.prog W2 = .ok (.agg #[.int .u64 f0, .int .u64 f1, .int .u64 f2, .int .u64 f3, .int .u64 f4]) W2 := hidx
          have hlt1 : w.heap.size < wr.heap.size := by have := hp.sz; omega
          have hp2 := hp.below ((Below.refl _ _).alloc (Nat.le_refl _) (.cells #[.int .u64 f0, .int .u64 f1, .int .u64 f2, .int .u64 f3, .int .u64 f4] 47))
          have hF : rowAt (wr.alloc (.cells #[.int .u64 f0, .int .u64 f1, .int .u64 f2, .int .u64 f3, .int .u64 f4] 47)) wr.heap.size [f0, f1, f2, f3, f4] 47 := by
            simp only [rowAt, heap_alloc_any, if_true]; rfl
          obtain ⟨F, hFs⟩ : ∃ F, wr.heap.size = F := ⟨_, rfl⟩
          obtain ⟨WF, hWF⟩ : ∃ WF, wr.alloc (.cells #[.int .u64 f0, .int .u64 f1, .int .u64 f2, .int .u64 f3, .int .u64 f4] 47) = WF := ⟨_, rfl⟩
          rw [hFs, hWF] at hF
          rw [hWF] at hp2
          have HNE : Hid (F ≠ X) := by
            have h1 := (Array.getElem?_eq_some_iff.1 hp.hx).1
            show F ≠ X
            omega
          have hx := hp2.hx
          have HX : Hid (rowAt WF X (qw a k) 47) := hp2.hx
          rw [hxe.out] at hx
          obtain ⟨hx0, hx1, hx2, hx3, hx4⟩ := cells5 hx
          have HF : Hid (rowAt WF F [f0, f1, f2, f3, f4] 47) := hF
          have HXL : Hid ((qw a k).length = 5) := (qw_lim HA.out k).len
          have HN : Hid (∀ w3, Below WF.heap.size WF w3 → IW w.heap.size X W1 a (qw a (k + 1)) (((((w3.setCell ⟨X, 0, none⟩ (.int .u64 t0)).setCell ⟨X, 1, none⟩ (.int .u64 t1)).setCell ⟨X, 2, none⟩ (.int .u64 t2)).setCell ⟨X, 3, none⟩ (.int .u64 t3)).setCell ⟨X, 4, none⟩ (.int .u64 t4))) := fun w3 hb => by
            rw [show qw a (k + 1) = [t0, t1, t2, t3, t4] from hte.out]
            exact (hp2.below hb).set5 HXL.out _ _ _ _ _
          clear hp hp2 hx hF hxe hfe hte HP hidx hlt1
          go_wp2
          refine wp_region_held_drew (S := fun Y => rowAt Y F [f0, f1, f2, f3, f4] 47) (by kernel_rfl) (HF.out) (fun hH => ?_)
          refine wpAnyH_take (i := 3) (v := .agg #[.int .u64 f0, .int .u64 f1, .int .u64 f2, .int .u64 f3, .int .u64 f4]) rfl (by kernel_rfl) (by kernel_rfl) (by kernel_rfl) (fun _ _ _ h => h) (Or.inl ⟨by kernel_rfl, fun W hW => ?_⟩) hH ?_
          · obtain ⟨hg0, hg1, hg2, hg3, hg4⟩ := cells5 hW; go_simp
          try simp only [Act.put, List.setIfInBounds_toArray, List.set_cons_zero, List.set_cons_succ]
          refine wpAnyH_ready (rs := [0, 1]) (by kernel_rfl) (by simp) (AllReadyH.cons rfl (fun K' hK => ?_) (AllReadyH.cons rfl (fun K' hK => ?_) AllReadyH.nil))
          · go_simp
            refine hK.out _ _ hH (fun hH => ?_)
            clear hK K'
            try simp only [Act.put, List.setIfInBounds_toArray, List.set_cons_zero, List.set_cons_succ]
            refine wpAnyH_ready (rs := [1]) (by kernel_rfl) (by simp) (AllReadyH.cons rfl (fun K' hK => ?_) AllReadyH.nil)
            go_simp
            refine hK.out _ _ hH (fun hH => ?_)
            clear hK K'
            try simp only [Act.put, List.setIfInBounds_toArray, List.set_cons_zero, List.set_cons_succ]
            refine wpAnyH_ready (rs := [2]) (by kernel_rfl) (by simp) (AllReadyH.cons rfl (fun K' hK => ?_) AllReadyH.nil)
            go_simp
            refine (HC1.out _).mono ?_
            rintro e w2 ⟨rfl, hb2⟩
            have HX2 : Hid (rowAt w2 X (qw a k) 47) := row_below (w := WF.drew) HX.out hb2
            have HB2 : Hid (Below WF.drew.heap.size WF.drew w2) := hb2
            go_wp2_with fail
            refine hK.out _ _ (row_below (w := WF.drew) hH hb2) (fun hH => ?_)
            clear hb2
            clear hK K'
            try simp only [Act.put, List.setIfInBounds_toArray, List.set_cons_zero, List.set_cons_succ]
            refine wpAnyH_ready (rs := [4]) (by kernel_rfl) (by simp) (AllReadyH.cons rfl (fun K' hK => ?_) AllReadyH.nil)
            go_simp
            refine (HC2.out _).mono ?_
            rintro e w3 ⟨rfl, hb3⟩
            obtain ⟨_, _, _, _, _, _, hy0, hy1, hy2, hy3, hy4, hz0, hz1, hz2, hz3, hz4⟩ := row5 (row_below HX2.out hb3) HXL.out
            have HB3 : Hid (Below WF.heap.size WF w3) := ((Below.refl WF.heap.size WF).drew.trans HB2.out).trans (hb3.mono HB2.out.size)
            go_wp2_with fail
            refine hK.out _ _ (row_below hH hb3) (fun hH => ?_)
            clear hb3
            clear hK K'
            try simp only [Act.put, List.setIfInBounds_toArray, List.set_cons_zero, List.set_cons_succ]
            refine wpAnyH_ready (rs := [5]) (by kernel_rfl) (by simp) (AllReadyH.cons rfl (fun K' hK => ?_) AllReadyH.nil)
            go_simp
            refine hK.out _ _ (row_other (row_other (row_other (row_other (row_other hH HNE.out _) HNE.out _) HNE.out _) HNE.out _) HNE.out _) (fun hH => ?_)
            clear hK K'
            try simp only [Act.put, List.setIfInBounds_toArray, List.set_cons_zero, List.set_cons_succ]
            refine wpAnyH_done (by kernel_rfl) ?_ _
            try simp only [Act.put, List.getElem_toArray, List.getElem_cons_succ, List.getElem_cons_zero, List.getElem?_toArray, List.getElem?_cons_succ, List.getElem?_cons_zero, List.setIfInBounds_toArray, List.set_cons_zero, List.set_cons_succ]
            go_wp2
            go_roundw
            case rel => exact ⟨k + 1, by omega, by go_num, HN.out _ HB3.out⟩
            case measure => simp [intOf]; omega
          · go_simp
            refine hK.out _ _ hH (fun hH => ?_)
            clear hK K'
            try simp only [Act.put, List.setIfInBounds_toArray, List.set_cons_zero, List.set_cons_succ]
            refine wpAnyH_ready (rs := [0]) (by kernel_rfl) (by simp) (AllReadyH.cons rfl (fun K' hK => ?_) AllReadyH.nil)
            go_simp
            refine hK.out _ _ hH (fun hH => ?_)
            clear hK K'
            try simp only [Act.put, List.setIfInBounds_toArray, List.set_cons_zero, List.set_cons_succ]
            refine wpAnyH_ready (rs := [2]) (by kernel_rfl) (by simp) (AllReadyH.cons rfl (fun K' hK => ?_) AllReadyH.nil)
            go_simp
            refine (HC1.out _).mono ?_
            rintro e w2 ⟨rfl, hb2⟩
            have HX2 : Hid (rowAt w2 X (qw a k) 47) := row_below (w := WF.drew) HX.out hb2
            have HB2 : Hid (Below WF.drew.heap.size WF.drew w2) := hb2
            go_wp2_with fail
            refine hK.out _ _ (row_below (w := WF.drew) hH hb2) (fun hH => ?_)
            clear hb2
            clear hK K'
            try simp only [Act.put, List.setIfInBounds_toArray, List.set_cons_zero, List.set_cons_succ]
            refine wpAnyH_ready (rs := [4]) (by kernel_rfl) (by simp) (AllReadyH.cons rfl (fun K' hK => ?_) AllReadyH.nil)
            go_simp
            refine (HC2.out _).mono ?_
            rintro e w3 ⟨rfl, hb3⟩
            obtain ⟨_, _, _, _, _, _, hy0, hy1, hy2, hy3, hy4, hz0, hz1, hz2, hz3, hz4⟩ := row5 (row_below HX2.out hb3) HXL.out
            have HB3 : Hid (Below WF.heap.size WF w3) := ((Below.refl WF.heap.size WF).drew.trans HB2.out).trans (hb3.mono HB2.out.size)
            go_wp2_with fail
            refine hK.out _ _ (row_below hH hb3) (fun hH => ?_)
            clear hb3
            clear hK K'
            try simp only [Act.put, List.setIfInBounds_toArray, List.set_cons_zero, List.set_cons_succ]
            refine wpAnyH_ready (rs := [5]) (by kernel_rfl) (by simp) (AllReadyH.cons rfl (fun K' hK => ?_) AllReadyH.nil)
            go_simp
            refine hK.out _ _ (row_other (row_other (row_other (row_other (row_other hH HNE.out _) HNE.out _) HNE.out _) HNE.out _) HNE.out _) (fun hH => ?_)
            clear hK K'
            try simp only [Act.put, List.setIfInBounds_toArray, List.set_cons_zero, List.set_cons_succ]
            refine wpAnyH_done (by kernel_rfl) ?_ _
            try simp only [Act.put, List.getElem_toArray, List.getElem_cons_succ, List.getElem_cons_zero, List.getElem?_toArray, List.getElem?_cons_succ, List.getElem?_cons_zero, List.setIfInBounds_toArray, List.set_cons_zero, List.set_cons_succ]
            go_wp2
            go_roundw
            case rel => exact ⟨k + 1, by omega, by go_num, HN.out _ HB3.out⟩
            case measure => simp [intOf]; omega
        · have hk' : k = 5 := by omega
          subst hk'
          obtain ⟨x0, x1, x2, x3, x4, hxe, hx0, hx1, hx2, hx3, hx4, _, _, _, _, _⟩ := row5 hp.hx (qw_lim HA.out 5).len
          obtain ⟨_, _, _, _, _, _, hy0, hy1, hy2, hy3, hy4, hz0, hz1, hz2, hz3, hz4⟩ := row5 hp.hr (by simp)
          clear hp hlt hk
          go_wp2
          refine bodyPost_ret (v := .agg (VI .u64 [x0, x1, x2, x3, x4])) ?_ rfl ⟨by rw [hxe.out], HD.out _ (((((HP.out.grow.setCell ?_ _).setCell ?_ _).setCell ?_ _).setCell ?_ _).setCell ?_ _)⟩
          · exact results_cell_row (P := Try.prog) (fn := Try.f44) (p := 4) (ty := 47) rfl _ _ (w.heap.size + 1) 47 (VI .u64 [x0, x1, x2, x3, x4]) (0, 0) _ rfl (store5 HP.out.hr x0 x1 x2 x3 x4) Try.underlying47 rfl infoE
          all_goals (left; simp)
end Go.Proofs.Ytacofgmnmofkpaa
