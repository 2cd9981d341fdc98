import Derived.Test.YtgfamcadgahiiabMacK
import Derived.Test.YtgfamcadgahiiabMacM
import Derived.Test.YtgfamcadgahiiabTrQ7
import Derived.Test.YtgfamcadgahiiabTrR
namespace Go.Proofs.Ytgfamcadgahiiab
set_option linter.unusedSimpArgs false
set_option linter.unusedVariables false
open Go.ChangeShapes Go.WideShapes Go.ChangeAt Go.RowKit Go.Pin Go.Prm
abbrev bxR : Obj := .cells #[.slice none 0 0, .int .i64 0] 56
theorem Ev.recOf {B : Nat} {w : World} {R : Nat} {l : List (Int × Int)} {bx : List (Nat × Obj)} {W : World} (h : Ev B w (.pointer (some ⟨R, 0, none⟩)) l bx W) : ∃ vs, Rec B W R vs l ∧ ∀ p ∈ bx, ¬ Blk R vs p.1 := by
  rcases h.rc with e | ⟨R', vs, e, h2, h3⟩
  · cases e
  · injection e with e; injection e with e; injection e with e1; subst e1
    exact ⟨vs, h2, h3⟩
theorem rec_zero {B : Nat} {W : World} {S : Nat} (hS : W.heap[S]? = some bxR) (hB : B ≤ S) : Rec B W S (.slice none 0 0) [] :=
  ⟨hB, hS, World.ownsRow_nil _ _ _ _⟩
theorem blk_list {B : Nat} {W : World} {R : Nat} {vs : Value} {l : List (Int × Int)} (h : Rec B W R vs l) : ∃ bl : List (Nat × Obj), (∀ k, Blk R vs k → ∃ o, (k, o) ∈ bl) ∧ (∀ p ∈ bl, Blk R vs p.1 ∧ W.heap[p.1]? = some p.2) := by
  have g : ∀ k, Blk R vs k → ∃ o, W.heap[k]? = some o := fun k hk => ⟨_, Array.getElem?_eq_getElem (h.lt k hk)⟩
  obtain ⟨o1, h1⟩ := g R (.inl rfl)
  cases hv : vs.ownBlock with
  | none =>
    refine ⟨[(R, o1)], fun k hk => ?_, fun p hp => ?_⟩
    · rcases hk with rfl | hk
      · exact ⟨o1, by simp⟩
      · rw [hv] at hk; cases hk
    · simp at hp; subst hp; exact ⟨.inl rfl, h1⟩
  | some g2 =>
    obtain ⟨o2, h2⟩ := g g2 (.inr hv)
    refine ⟨[(R, o1), (g2, o2)], fun k hk => ?_, fun p hp => ?_⟩
    · rcases hk with rfl | hk
      · exact ⟨o1, by simp⟩
      · rw [hv] at hk; injection hk with hk; subst hk; exact ⟨o2, by simp⟩
    · simp at hp
      rcases hp with rfl | rfl
      · exact ⟨.inl rfl, h1⟩
      · exact ⟨.inr hv, h2⟩
theorem rec_of_eq {B : Nat} {W W' : World} {R : Nat} {vs : Value} {l : List (Int × Int)} (h : Rec B W R vs l) (he : ∀ k, Blk R vs k → W'.heap[k]? = W.heap[k]?) : Rec B W' R vs l := by
  refine ⟨h.1, (he R (.inl rfl)).trans h.2.1, h.2.2.1, ?_⟩
  rcases h.2.2.2 with h0 | ⟨g, cap, cur, e, hb, hg, hr⟩
  · exact .inl h0
  · exact .inr ⟨g, cap, cur, e, hb, (he g (.inr (by rw [e]; rfl))).trans hg, hr⟩
/-- two Recorders beside boxes -/
structure Two (B : Nat) (w : World) (R : Nat) (l : List (Int × Int)) (S : Nat) (m : List (Int × Int)) (bl bx : List (Nat × Obj)) (vs : Value) (W : World) : Prop where
  ev : Ev B w (.pointer (some ⟨R, 0, none⟩)) l (bl ++ bx) W
  rc : Rec B W S vs m
  cov : ∀ k, Blk S vs k → ∃ o, (k, o) ∈ bl
  sub : ∀ p ∈ bl, Blk S vs p.1
  dis : ∀ p ∈ bx, ¬ Blk S vs p.1
section
variable {B : Nat} {w : World} {R S : Nat} {l l' m : List (Int × Int)} {bl bx bx' : List (Nat × Obj)} {vs : Value} {W W' : World}
theorem Two.step (h : Two B w R l S m bl bx vs W) (h' : Ev B w (.pointer (some ⟨R, 0, none⟩)) l' (bl ++ bx) W') : Two B w R l' S m bl bx vs W' :=
  ⟨h', rec_of_eq h.rc (fun k hk => by
    obtain ⟨o, ho⟩ := h.cov k hk
    rw [h'.row (List.mem_append_left _ ho), h.ev.row (List.mem_append_left _ ho)]), h.cov, h.sub, h.dis⟩
theorem Two.swap (h : Two B w R l S m bl bx vs W) : ∃ bl' vs', Two B w S m R l bl' bx vs' W := by
  obtain ⟨vr, r1, r2⟩ := h.ev.recOf
  obtain ⟨bl', c1, c2⟩ := blk_list r1
  refine ⟨bl', vr, ⟨h.ev.old, h.ev.le, fun p hp => ?_, fun p hp => ?_, .inr ⟨S, vs, rfl, h.rc, fun p hp => ?_⟩⟩, r1, c1, fun p hp => (c2 p hp).1, fun p hp => r2 p (List.mem_append_right _ hp)⟩
  · rcases List.mem_append.1 hp with hp | hp
    · exact r1.ge _ (c2 p hp).1
    · exact h.ev.ge p (List.mem_append_right _ hp)
  · rcases List.mem_append.1 hp with hp | hp
    · exact (c2 p hp).2
    · exact h.ev.at' p (List.mem_append_right _ hp)
  · rcases List.mem_append.1 hp with hp | hp
    · intro hk
      obtain ⟨o, ho⟩ := h.cov _ hk
      exact r2 _ (List.mem_append_left _ ho) (c2 p hp).1
    · exact h.dis p hp
/-- the same, the blocks unnamed -/
def TwoE (B : Nat) (w : World) (R : Nat) (l : List (Int × Int)) (S : Nat) (m : List (Int × Int)) (bx : List (Nat × Obj)) (W : World) : Prop := ∃ bl vs, Two B w R l S m bl bx vs W
theorem TwoE.swap (h : TwoE B w R l S m bx W) : TwoE B w S m R l bx W := by
  obtain ⟨bl, vs, h⟩ := h
  exact h.swap
theorem TwoE.old (h : TwoE B w R l S m bx W) : Below B w W := by obtain ⟨_, _, h⟩ := h; exact h.ev.old
theorem TwoE.le (h : TwoE B w R l S m bx W) : B ≤ W.heap.size := by obtain ⟨_, _, h⟩ := h; exact h.ev.le
theorem TwoE.row (h : TwoE B w R l S m bx W) {g : Nat} {x : Obj} (hp : (g, x) ∈ bx) : W.heap[g]? = some x := by obtain ⟨_, _, h⟩ := h; exact h.ev.row (List.mem_append_right _ hp)
theorem TwoE.below (h : TwoE B w R l S m bx W) (hb : Below W.heap.size W W') : TwoE B w R l S m bx W' := by
  obtain ⟨bl, vs, h⟩ := h
  exact ⟨bl, vs, h.step (h.ev.below hb)⟩
/-- two new ones -/
theorem two_new (h : Ev B w (.pointer none) l' ((R, bxR) :: (S, bxR) :: bx) W) (h1 : R ≠ S) (h2 : ∀ p ∈ bx, p.1 ≠ R ∧ p.1 ≠ S) : TwoE B w R [] S [] bx W := by
  have hz : ∀ k, ¬ (Value.slice none 0 0).ownBlock = some k := fun k hk => by cases hk
  refine ⟨[(S, bxR)], .slice none 0 0, ⟨h.old, h.le, fun p hp => h.ge p (List.mem_cons_of_mem _ hp), fun p hp => h.at' p (List.mem_cons_of_mem _ hp), .inr ⟨R, _, rfl, rec_zero (h.row mem0) (h.ge _ mem0), fun p hp hk => ?_⟩⟩, rec_zero (h.row mem1) (h.ge _ mem1), fun k hk => ?_, fun p hp => ?_, fun p hp hk => ?_⟩
  · rcases hk with hk | hk
    · rcases List.mem_cons.1 hp with rfl | hp
      · exact h1 hk.symm
      · exact (h2 p hp).1 hk
    · exact hz _ hk
  · rcases hk with rfl | hk
    · exact ⟨_, mem0⟩
    · exact absurd hk (hz _)
  · rw [List.mem_singleton.1 hp]; exact .inl rfl
  · rcases hk with hk | hk
    · exact (h2 p hp).2 hk
    · exact hz _ hk
theorem TwoE.of (h : TwoE B w R l S m bx W) {key : List Int} (hk : Key32 key) {a : Option Addr} {n cap : Nat} {Ds : List (List Int)} (hP : PSrc B w bx a n Ds) (hD : BytL Ds) (hl : l.length + 25 * n + Ds.flatten.length ≤ 600000) :
    Calls Try.prog 6 #[.pointer (some ⟨R, 0, none⟩), .agg (VI .u8 key), .slice a n cap] W fun e w' => ∃ v, e = .returned v ∧ TwoE B w R (l ++ olg (Ds.map List.length)) S m bx w' := by
  obtain ⟨bl, vs, h⟩ := h
  refine (of_any (cap := cap) h.ev hk (hP.sub (fun p hp => List.mem_append_right _ hp)) hD (fun _ => hl)).mono ?_
  rintro e w' ⟨rfl, h'⟩
  exact ⟨_, rfl, bl, vs, h.step h'⟩
theorem TwoE.check (h : TwoE B w R l S m bx W) {key tg : List Int} (hk : Key32 key) (ht : Tag16 tg) {a : Option Addr} {n cap : Nat} {Ds : List (List Int)} (hP : PSrc B w bx a n Ds) (hD : BytL Ds) (hl : l.length + 25 * n + Ds.flatten.length ≤ 600000) :
    Calls Try.prog 7 #[.pointer (some ⟨R, 0, none⟩), .agg (VI .u8 key), .agg (VI .u8 tg), .slice a n cap] W fun e w' => e = .returned (.bool (decide (mtag key Ds.flatten = tg))) ∧ TwoE B w R (l ++ olg (Ds.map List.length) ++ [ifl (decide (mtag key Ds.flatten = tg))]) S m bx w' := by
  obtain ⟨bl, vs, h⟩ := h
  refine (check_any (cap := cap) h.ev hk ht (hP.sub (fun p hp => List.mem_append_right _ hp)) hD (fun _ => hl)).mono ?_
  rintro e w' ⟨rfl, h'⟩
  exact ⟨rfl, bl, vs, h.step h'⟩
theorem TwoE.same (h : TwoE B w R l S m bx W) (hl : l.length ≤ 1000000000) : Calls Try.prog 10 #[.pointer (some ⟨R, 0, none⟩), .pointer (some ⟨S, 0, none⟩)] W fun e w' => e = .returned (.bool (l == m)) ∧ TwoE B w R l S m bx w' := by
  obtain ⟨bl, vs, h⟩ := h
  obtain ⟨vr, r1, r2⟩ := h.ev.recOf
  refine (tsame_any _ _ vr vs l m W r1.opt h.rc.opt hl).mono ?_
  rintro e w' ⟨he, n, rfl⟩
  exact ⟨he, bl, vs, h.step (h.ev.below ⟨rfl, rfl, rfl, Nat.le_refl _, fun _ _ => rfl⟩)⟩
theorem TwoE.total (h : TwoE B w R l S m bx W) : Calls Try.prog 11 #[.pointer (some ⟨R, 0, none⟩)] W fun e w' => e = .returned (.int .i64 l.length) ∧ w' = W := by
  obtain ⟨bl, vs, h⟩ := h
  exact v_total h.ev
theorem TwoE.runs (h : TwoE B w R l S m bx W) (hl : l.length ≤ 1000000) (h0 : 0 < l.length) : Calls Try.prog 12 #[.pointer (some ⟨R, 0, none⟩)] W fun e w' => ∃ a k c, e = .returned (.slice a (k + 1) c) ∧ TwoE B w R l S m bx w' := by
  obtain ⟨bl, vs, h⟩ := h
  obtain ⟨vr, r1, r2⟩ := h.ev.recOf
  refine (tRuns_any _ vr l hl W r1.opt).mono ?_
  rintro e w' ⟨u, rfl, hu, hb⟩
  have hp : 0 < (rn l).length := by
    rcases l.eq_nil_or_concat with e | ⟨r, x, e⟩
    · rw [e] at h0; simp at h0
    · rw [e, List.concat_eq_append, rn_snoc]
      unfold rnStep
      split
      · split <;> simp
      · simp
  obtain ⟨k, hk⟩ : ∃ k, (rn l).length = k + 1 := ⟨(rn l).length - 1, by omega⟩
  rw [hk] at hu
  rcases hu.2 with ⟨_, e⟩ | ⟨g, cap, cur, rfl, _⟩
  · omega
  · exact ⟨_, k, cap, rfl, bl, vs, h.step (h.ev.below hb)⟩
end
set_option maxRecDepth 100000 in
theorem mk_b (n : Nat) (x : Int) (hx : x = (n : Int)) (hn : n ≤ 1000000) (w : World) : (Instr.makeSlice 32 (.int .i64 x) (.int .i64 x)).run Try.prog w = .ok (.slice (some ⟨w.heap.size, 0, none⟩) n n) (w.alloc (.cells (VI .u8 (List.replicate n 0)) 5)) := by
  subst hx
  obtain ⟨i0, hi, hz⟩ := Option.map_eq_some_iff.1 parts_u8
  simp only [Prod.mk.injEq] at hz
  obtain ⟨hz0, hz1, hz2⟩ := hz
  have := run_makeSlice (P := Try.prog) w 32 5 i0 (.int .u8 0) Try.underlying32 hi hz0 .i64 .i64 (n : Int) (n : Int) (by omega) (Int.le_refl _) (by rw [hz1]; omega) (by rw [hz2]; omega) (by omega)
  rw [this, hz1, Int.toNat_natCast]
  congr 3
  apply Array.ext'
  simp [madeCells, Value.cells, VI]
  refine List.eq_replicate_iff.2 ⟨by simp, ?_⟩
  simp
  intro a _
  rw [Nat.mod_one]
  rfl
theorem Ev.setAtH {B : Nat} {w : World} {rv : Value} {l : List (Int × Int)} {bx : List (Nat × Obj)} {W : World} {g : Nat} {M : List Int} {T : TypeId} (h : Ev B w rv l ((g, .cells (VI .u8 M) T) :: bx) W) (hne : ∀ p ∈ bx, p.1 ≠ g) (i : Nat) (hi : i < M.length) (v : Int) :
    W.cell? ⟨g, i, none⟩ = some (.int .u8 (M.getD i 0)) ∧ W.frozen? ⟨g, i, none⟩ = false ∧ Ev B w rv l ((g, .cells (VI .u8 (M.set i v)) T) :: bx) (W.setCell ⟨g, i, none⟩ (.int .u8 v)) := by
  have hr := h.row mem0
  refine ⟨by rw [cell_of_row W _ _ _ _ _ hr, VI_at _ _ _ hi], frozen_of_row W _ _ _ _ hr, ?_⟩
  refine h.set rfl hne ((Grow.refl (fun k => k = g) W).setCell (p := ⟨g, i, none⟩) (.inl rfl) _) ?_
  rw [heap_setCell_same W _ _ _ _ _ hr]
  simp [VI, List.map_set]
theorem rdb_at {W : World} {q : Nat} (hq : W.heap.size = q) {a : Option Addr} {n cap : Nat} {D : List Int} (hR : RdB W (.slice a n cap) D) : D.length = n ∧ n ≤ cap ∧ ∀ i, i < n → ∃ b o, a = some ⟨b, o, none⟩ ∧ b < q ∧ ∀ Y, Below q W Y → Y.cell? ⟨b, o + i, none⟩ = some (.int .u8 (D.getD i 0)) := by
  obtain ⟨a', c', e, hc, h3⟩ := hR
  injection e with e1 e2 e3
  subst e1
  have hDn : D.length = n := e2.symm
  refine ⟨hDn, by rw [e3, ← hDn]; exact hc, fun i hi => ?_⟩
  rcases h3 with h3 | ⟨b, o, h3, h4⟩
  · rw [h3] at hDn; simp at hDn; omega
  · have := h4 i (.int .u8 (D.getD i 0)) (by rw [List.getElem?_map, List.getD_eq_getElem?_getD, List.getElem?_eq_getElem (by omega)]; rfl)
    have hlt : b < q := by rw [← hq]; exact World.block_lt_of_cell? W _ this
    refine ⟨b, o, h3, hlt, fun Y hY => ?_⟩
    rw [World.cell?_of_block (a := ⟨b, o + i, none⟩) (hY.block b hlt)]
    exact this
/-- the twin: a piece, its box -/
def twp (p : Nat × List Int) : Value := .slice (some ⟨p.1, 0, none⟩) p.2.length p.2.length
def tbx (K : List (Nat × List Int)) : List (Nat × Obj) := K.map fun p => (p.1, Obj.cells (VI .u8 p.2) 5)
def BL (q : Nat) (W : World) (bx : List (Nat × Obj)) (K : List (Nat × List Int)) (v : Value) (w' : World) : Prop :=
  ∃ lt, Lst 32 1 v K.length (K.map twp) lt ∧ Ev q W (.pointer none) [] (lt ++ (tbx K ++ bx)) w' ∧ ∀ p ∈ lt, ∀ r ∈ tbx K ++ bx, r.1 ≠ p.1
theorem psrc_twp {B : Nat} {w : World} {K : List (Nat × List Int)} {u : Value} {l2 : List (Nat × Obj)} (h : Lst 32 1 u K.length (K.map twp) l2) (hm : K.length ≤ maxLen) {bx : List (Nat × Obj)} (h2 : ∀ p ∈ l2, p ∈ bx) (hr : ∀ p ∈ tbx K, p ∈ bx) : ∃ au cu, u = .slice au K.length cu ∧ PSrc B w bx au K.length (K.map Prod.snd) := by
  obtain ⟨au, cu, hu⟩ : ∃ au cu, u = .slice au K.length cu := by
    rcases h.2 with ⟨e1, e2, _⟩ | ⟨g, cap, cur, e1, _⟩
    · exact ⟨none, 0, by rw [e1, e2]⟩
    · exact ⟨_, _, e1⟩
  refine ⟨au, cu, hu, ⟨List.length_map .., hm⟩, fun j hj => ?_⟩
  have hp : (K.map twp)[j]? = some (twp K[j]) := by rw [List.getElem?_map, List.getElem?_eq_getElem hj]; rfl
  have hD : (K.map Prod.snd).getD j [] = (K[j]).2 := by rw [List.getD_eq_getElem?_getD, List.getElem?_map, List.getElem?_eq_getElem hj]; rfl
  rcases h.2 with ⟨_, e, _⟩ | ⟨g, cap, cur, e1, e2, e3, e4, e5, e6⟩
  · omega
  · rw [hu] at e1
    injection e1 with e1 _ _
    refine ⟨g, 0, twp K[j], e1, fun Y _ hq => ?_, ?_⟩
    · have hrow := hq (g, .cells cur 32 (0, 0)) (h2 _ (by rw [e2]; exact mem0))
      rw [cell_of_row Y _ _ _ _ _ hrow, Nat.zero_add, ← hp, ← e6, List.getElem?_take_of_lt (by omega)]
      simp
    · rw [hD]
      have hmem : ((K[j]).1, Obj.cells (VI .u8 (K[j]).2) 5) ∈ bx := hr _ (List.mem_map.2 ⟨K[j], List.getElem_mem hj, rfl⟩)
      have := src_box (B := B) (w := w) hmem 0 (K[j]).2.length (K[j]).2.length (by omega) (by omega)
      rw [List.drop_zero, List.take_length] at this
      exact this
end Go.Proofs.Ytgfamcadgahiiab
