import Derived.Test.YtefnlaookmpbhaaStrU
import Derived.Test.YtefnlaookmpbhaaTrQ6
namespace Go.Proofs.Ytefnlaookmpbhaa
set_option linter.unusedSimpArgs false
set_option linter.unusedVariables false
open Go.ChangeShapes Go.WideShapes Go.ChangeAt Go.RowKit Go.Pin Go.Str
theorem Ev.recOf {B : Nat} {w : World} {R : Nat} {l : List (Int × Int)} {bx : List (Nat × Obj)} {W : World} (h : Ev B w (.pointer (some ⟨R, 0, none⟩)) l bx W) : ∃ vs, Rec B W R vs l ∧ ∀ p ∈ bx, ¬ Blk R vs p.1 := by
  rcases h.rc with e | ⟨R', vs, e, h2, h3⟩
  · cases e
  · injection e with e; injection e with e; injection e with e1; subst e1
    exact ⟨vs, h2, h3⟩
theorem blk_list {B : Nat} {W : World} {R : Nat} {vs : Value} {l : List (Int × Int)} (h : Rec B W R vs l) : ∃ bl : List (Nat × Obj), (∀ k, Blk R vs k → ∃ o, (k, o) ∈ bl) ∧ (∀ p ∈ bl, Blk R vs p.1 ∧ W.heap[p.1]? = some p.2) := by
  have g : ∀ k, Blk R vs k → ∃ o, W.heap[k]? = some o := fun k hk => ⟨_, Array.getElem?_eq_getElem (h.lt k hk)⟩
  obtain ⟨o1, h1⟩ := g R (.inl rfl)
  cases hv : vs.ownBlock with
  | none =>
    refine ⟨[(R, o1)], fun k hk => ?_, fun p hp => ?_⟩
    · rcases hk with rfl | hk
      · exact ⟨o1, by simp⟩
      · rw [hv] at hk; cases hk
    · simp at hp; subst hp; exact ⟨.inl rfl, h1⟩
  | some g2 =>
    obtain ⟨o2, h2⟩ := g g2 (.inr hv)
    refine ⟨[(R, o1), (g2, o2)], fun k hk => ?_, fun p hp => ?_⟩
    · rcases hk with rfl | hk
      · exact ⟨o1, by simp⟩
      · rw [hv] at hk; injection hk with hk; subst hk; exact ⟨o2, by simp⟩
    · simp at hp
      rcases hp with rfl | rfl
      · exact ⟨.inl rfl, h1⟩
      · exact ⟨.inr hv, h2⟩
theorem rec_of_eq {B : Nat} {W W' : World} {R : Nat} {vs : Value} {l : List (Int × Int)} (h : Rec B W R vs l) (he : ∀ k, Blk R vs k → W'.heap[k]? = W.heap[k]?) : Rec B W' R vs l := by
  refine ⟨h.1, (he R (.inl rfl)).trans h.2.1, h.2.2.1, ?_⟩
  rcases h.2.2.2 with h0 | ⟨g, cap, cur, e, hb, hg, hr⟩
  · exact .inl h0
  · exact .inr ⟨g, cap, cur, e, hb, (he g (.inr (by rw [e]; rfl))).trans hg, hr⟩
/-- two Recorders beside boxes -/
structure Two (B : Nat) (w : World) (R : Nat) (l : List (Int × Int)) (S : Nat) (m : List (Int × Int)) (bl bx : List (Nat × Obj)) (vs : Value) (W : World) : Prop where
  ev : Ev B w (.pointer (some ⟨R, 0, none⟩)) l (bl ++ bx) W
  rc : Rec B W S vs m
  cov : ∀ k, Blk S vs k → ∃ o, (k, o) ∈ bl
  sub : ∀ p ∈ bl, Blk S vs p.1
  dis : ∀ p ∈ bx, ¬ Blk S vs p.1
section
variable {B : Nat} {w : World} {R S : Nat} {l l' m : List (Int × Int)} {bl bx bx' : List (Nat × Obj)} {vs : Value} {W W' : World}
theorem Two.step (h : Two B w R l S m bl bx vs W) (h' : Ev B w (.pointer (some ⟨R, 0, none⟩)) l' (bl ++ bx') W') (hd : ∀ p ∈ bx', ¬ Blk S vs p.1) : Two B w R l' S m bl bx' vs W' :=
  ⟨h', rec_of_eq h.rc (fun k hk => by
    obtain ⟨o, ho⟩ := h.cov k hk
    rw [h'.row (List.mem_append_left _ ho), h.ev.row (List.mem_append_left _ ho)]), h.cov, h.sub, hd⟩
theorem Two.swap (h : Two B w R l S m bl bx vs W) : ∃ bl' vs', Two B w S m R l bl' bx vs' W := by
  obtain ⟨vr, r1, r2⟩ := h.ev.recOf
  obtain ⟨bl', c1, c2⟩ := blk_list r1
  refine ⟨bl', vr, ⟨h.ev.old, h.ev.le, fun p hp => ?_, fun p hp => ?_, .inr ⟨S, vs, rfl, h.rc, fun p hp => ?_⟩⟩, r1, c1, fun p hp => (c2 p hp).1, fun p hp => r2 p (List.mem_append_right _ hp)⟩
  · rcases List.mem_append.1 hp with hp | hp
    · exact r1.ge _ (c2 p hp).1
    · exact h.ev.ge p (List.mem_append_right _ hp)
  · rcases List.mem_append.1 hp with hp | hp
    · exact (c2 p hp).2
    · exact h.ev.at' p (List.mem_append_right _ hp)
  · rcases List.mem_append.1 hp with hp | hp
    · intro hk
      obtain ⟨o, ho⟩ := h.cov _ hk
      exact r2 _ (List.mem_append_left _ ho) (c2 p hp).1
    · exact h.dis p hp
theorem Two.block (h : Two B w R l S m bl bx vs W) (hl : l.length ≤ 1000000) (key nonce : List Nat) (c : Nat) (hk : Bs 32 key) (hn : Bs 12 nonce) (hc : c < 4294967296) :
    Calls Try.prog 11 #[.pointer (some ⟨R, 0, none⟩), .agg (VN .u8 key), .int .u32 (c : Int), .agg (VN .u8 nonce)] W fun e w' => e = .returned (.agg (VN .u8 (kb key c nonce))) ∧ Two B w R (l ++ [(3, 22)]) S m bl bx vs w' := by
  refine (block_any h.ev hl key nonce c hk hn hc).mono ?_
  rintro e w' ⟨he, h'⟩
  exact ⟨he, h.step h' h.dis⟩
theorem Two.xor {g : Nat} {L : List Nat} {T : TypeId} {fr : Nat × Nat} (h : Two B w R l S m bl ((g, .cells (VN .u8 L) T fr) :: bx) vs W) (hl : l.length ≤ 500000) (key nonce : List Nat) (c : Nat) (hk : Bs 32 key) (hn : Bs 12 nonce) (hc : c < 4294967296) (hne : ∀ p ∈ bx, p.1 ≠ g) (hf : fr = (0, 0) ∨ L.length ≤ fr.1) (hL : ∀ y ∈ L, y < 256) (o n cap : Nat) (hn1 : n ≤ 131072) (hcap : n ≤ cap) (ho : o + n ≤ L.length) :
    Calls Try.prog 17 #[.pointer (some ⟨R, 0, none⟩), .agg (VN .u8 key), .int .u32 (c : Int), .agg (VN .u8 nonce), .slice (some ⟨g, o, none⟩) n cap] W fun e w' => e = .returned (.tuple #[]) ∧ Two B w R (l ++ xlog n) S m bl ((g, .cells (VN .u8 (xr L o n (ks key c nonce))) T fr) :: bx) vs w' := by
  have hp := h.ev.sub (by' := (g, .cells (VN .u8 L) T fr) :: (bl ++ bx)) (fun p hp => by
    simp only [List.mem_cons, List.mem_append] at hp ⊢
    rcases hp with hp | hp | hp
    · exact .inr (.inl hp)
    · exact .inl hp
    · exact .inr (.inr hp))
  have hng : ∀ p ∈ bl ++ bx, p.1 ≠ g := fun p hp => by
    rcases List.mem_append.1 hp with hp | hp
    · intro e
      exact h.dis (g, .cells (VN .u8 L) T fr) (List.mem_cons_self ..) (e ▸ h.sub p hp)
    · exact hne p hp
  have := xor_any { B := B, w := w, rv := .pointer (some ⟨R, 0, none⟩), l := l, key := key, c := c, nonce := nonce, g := g, L := L, T := T, fr := fr, o := o, bx := bl ++ bx } n cap ⟨hk, hn, hc, hng, hf, hL, hl, ho⟩ hn1 hcap W hp
  refine this.mono ?_
  rintro e w' ⟨he, h'⟩
  refine ⟨he, h.step (h'.sub (fun p hp => ?_)) (fun p hp => ?_)⟩
  · simp only [List.mem_cons, List.mem_append] at hp ⊢
    rcases hp with hp | hp | hp
    · exact .inr (.inl hp)
    · exact .inl hp
    · exact .inr (.inr hp)
  · rcases List.mem_cons.1 hp with rfl | hp
    · exact h.dis (g, .cells (VN .u8 L) T fr) (List.mem_cons_self ..)
    · exact h.dis p (List.mem_cons_of_mem _ hp)
theorem Two.perm (h : Two B w R l S m bl bx vs W) (hs : ∀ p ∈ bx', p ∈ bx) : Two B w R l S m bl bx' vs W :=
  ⟨h.ev.sub (fun p hp => by
    rcases List.mem_append.1 hp with hp | hp
    · exact List.mem_append_left _ hp
    · exact List.mem_append_right _ (hs p hp)), h.rc, h.cov, h.sub, fun p hp => h.dis p (hs p hp)⟩
theorem Two.same (h : Two B w R l S l bl bx vs W) (hl : l.length ≤ 1000000000) : Calls Try.prog 23 #[.pointer (some ⟨R, 0, none⟩), .pointer (some ⟨S, 0, none⟩)] W fun e w' => e = .returned (.bool true) ∧ Two B w R l S l bl bx vs w' := by
  obtain ⟨vr, r1, r2⟩ := h.ev.recOf
  refine (tsame_any _ _ vr vs l l W r1.opt h.rc.opt hl).mono ?_
  rintro e w' ⟨he, n, rfl⟩
  refine ⟨by rw [he]; simp, h.step (h.ev.below ⟨rfl, rfl, rfl, Nat.le_refl _, fun _ _ => rfl⟩) h.dis⟩
end
/-- the beginning of any slice of bytes -/
theorem run_preA (w : World) (a : Option Addr) (n len cap : Nat) (x : Int) (hx : x = (n : Int)) (hn : n ≤ cap) : (Instr.slice 40 (.slice a len cap) none (some (.int .i64 x)) none).run Try.prog w = .ok (.slice a n cap) w := by
  subst hx
  have h2 : ((n : Nat) : Int) ≤ (cap : Int) := by omega
  have e2 : ∀ x : Addr, x.add 0 = x := fun x => by unfold Addr.add; simp
  cases a <;> simp [Instr.slice, run_underlying Try.underlying40, Instr.sliceBounds, run_sliceBound, size_u8, sliced, e2, h2, hn]
theorem Rd.take {w : World} {a : Option Addr} {cap : Nat} {D : List Nat} (h : Rd w (.slice a D.length cap) D) (n : Nat) (hn : n ≤ D.length) : Rd w (.slice a n cap) (D.take n) := by
  obtain ⟨a', cap', e, hc, hh⟩ := h
  injection e with e1 _ e3
  subst e1; subst e3
  have l1 : (D.take n).length = n := by rw [List.length_take]; omega
  refine ⟨a, cap, by rw [l1], by rw [l1]; omega, ?_⟩
  rcases hh with hh | ⟨b, o, rfl, hh⟩
  · left; rw [hh]; simp
  · right
    refine ⟨b, o, rfl, fun j hj => ?_⟩
    rw [l1] at hj
    rw [hh j (by omega)]
    simp [List.getD, List.getElem?_take_of_lt hj]
theorem zc (n : Nat) : Builtin.zeroCells (Value.int .u8 0).cells n = VN .u8 (List.replicate n 0) := by
  apply Array.ext'
  simp [Builtin.zeroCells, Value.cells, VN, VI]
  refine List.eq_replicate_iff.2 ⟨by simp, ?_⟩
  simp
  intro a _
  rw [Nat.mod_one]
  rfl
/-- append of bytes to an empty list -/
theorem app_bytes (w : World) (g0 : Nat) (hg0 : RB w g0 [] 5 (0, 0)) (a : Option Addr) (cap : Nat) (D : List Nat) (hDb : ∀ x ∈ D, x < 256) (hD : D.length ≤ 1000000) (h : Rd w (.slice a D.length cap) D) :
    ∃ g cap' L w', (Builtin.append_ #[40, 40] 40 #[.slice (some ⟨g0, 0, none⟩) 0 0, .slice a D.length cap]).run Try.prog w = .ok (.slice (some ⟨g, 0, none⟩) D.length cap') w' ∧ D.length ≤ cap' ∧ D.length ≤ L.length ∧ Below w.heap.size w w' ∧ (g = g0 ∨ g = w.heap.size) ∧ RB w' g L 5 (0, 0) ∧ sub L 0 D.length = D := by
  obtain ⟨i0, hi, hz⟩ := Option.map_eq_some_iff.1 infoBt
  simp only [Prod.mk.injEq] at hz
  obtain ⟨hz0, hz1, hz2⟩ := hz
  obtain ⟨a', cap'', e, hc, hh⟩ := h
  injection e with e1 _ e3
  subst e1; subst e3
  have key : D = [] ∨ (0 < D.length ∧ ∃ b o, a = some ⟨b, o, none⟩ ∧ ∀ j, j < D.length → w.cell? ⟨b, o + j, none⟩ = some (.int .u8 ((D.getD j 0 : Nat) : Int))) := by
    rcases hh with hh | hh
    · exact .inl hh
    · by_cases e : D = []
      · exact .inl e
      · exact .inr ⟨Nat.pos_of_ne_zero (fun h => e (List.eq_nil_of_length_eq_zero h)), hh⟩
  rcases key with rfl | ⟨hpos, b, o, rfl, hcells⟩
  · have hl : ∀ (x : Addr), (loadCells x 0).run Try.prog w = .ok #[] w := fun x => by simpa using run_loadCells_list (P := Try.prog) w x [] (by simp)
    refine ⟨g0, 0, [], w, ?_, Nat.le_refl _, Nat.le_refl _, Below.refl _ _, .inl rfl, hg0, rfl⟩
    cases a <;> simp [Builtin.append_, run_underlying Try.underlying40, sizeOf, typeInfo, zeroValue, hi, Builtin.lenOf, Question.forced, run_firstCells_none, storeCells, Builtin.firstCells, hl]
  · have hr := run_append_grow (P := Try.prog) w 40 40 5 i0 (.int .u8 0) Try.underlying40 hi hz0 ⟨g0, 0, none⟩ 0 0 [] (by simp) (by simp) ⟨b, o, none⟩ D.length cap (cellsB D) (by simp [cellsB, hz1]) (fun j v hv => by
        have hj : j < D.length := by simpa [cellsB] using (List.getElem?_eq_some_iff.1 hv).1
        rw [add_mid, hcells j hj]
        simp only [cellsB, List.getElem?_map, List.getElem?_eq_getElem hj, Option.map_some, Option.some.injEq] at hv
        rw [← hv]; simp [List.getD, List.getElem?_eq_getElem hj]) (by omega) (by omega) (growslice_fits (by omega) (by rw [hz2]; omega))
    have hge := grownCap_ge w (0 + D.length) 0 5
    rw [Nat.zero_add] at hr hge
    have ec : (#[] : Array Value) ++ (cellsB D).toArray ++ Builtin.zeroCells (Value.int .u8 0).cells (grownCap w D.length 0 5 - D.length) = VN .u8 (D ++ List.replicate (grownCap w D.length 0 5 - D.length) 0) := by
      rw [zc]
      apply Array.ext'
      simp [cellsB, VN, VI]
    rw [show ([] : List Value).toArray = #[] from rfl, ec] at hr
    refine ⟨w.heap.size, _, _, _, hr, hge, by simp, ⟨rfl, rfl, rfl, by simp, fun k hk => by rw [heap_alloc_any, if_neg (by show ¬ k = w.heap.size; omega)]; rfl⟩, .inr rfl, ⟨heap_alloc_new w.drew _, .inl rfl, fun x hx => ?_⟩, ?_⟩
    · rcases List.mem_append.1 hx with hx | hx
      · exact hDb x hx
      · rw [List.eq_of_mem_replicate hx]; decide
    · simp [sub]
end Go.Proofs.Ytefnlaookmpbhaa
