import Derived.Test.YtfkbgodfcnmepabDoorDgK
import Derived.Test.YtfkbgodfcnmepabDoorDgMb
import Derived.Test.YtfkbgodfcnmepabDoorTrQ7
namespace Go.Proofs.YtfkbgodfcnmepabDoor
set_option linter.unusedSimpArgs false
set_option linter.unusedVariables false
open Go.ChangeShapes Go.WideShapes Go.ChangeAt Go.RowKit Go.Pin Go.Str Go.Dig
abbrev bxR : Obj := .cells #[.slice none 0 0, .int .i64 0] 65
theorem Ev.recOf {B : Nat} {w : World} {R : Nat} {l : List (Int × Int)} {bx : List (Nat × Obj)} {W : World} (h : Ev B w (.pointer (some ⟨R, 0, none⟩)) l bx W) : ∃ vs, Rec B W R vs l ∧ ∀ p ∈ bx, ¬ Blk R vs p.1 := by
  rcases h.rc with e | ⟨R', vs, e, h2, h3⟩
  · cases e
  · injection e with e; injection e with e; injection e with e1; subst e1
    exact ⟨vs, h2, h3⟩
theorem rec_zero {B : Nat} {W : World} {S : Nat} (hS : W.heap[S]? = some bxR) (hB : B ≤ S) : Rec B W S (.slice none 0 0) [] :=
  ⟨hB, hS, World.ownsRow_nil _ _ _ _⟩
theorem blk_list {B : Nat} {W : World} {R : Nat} {vs : Value} {l : List (Int × Int)} (h : Rec B W R vs l) : ∃ bl : List (Nat × Obj), (∀ k, Blk R vs k → ∃ o, (k, o) ∈ bl) ∧ (∀ p ∈ bl, Blk R vs p.1 ∧ W.heap[p.1]? = some p.2) := by
  have g : ∀ k, Blk R vs k → ∃ o, W.heap[k]? = some o := fun k hk => ⟨_, Array.getElem?_eq_getElem (h.lt k hk)⟩
  obtain ⟨o1, h1⟩ := g R (.inl rfl)
  cases hv : vs.ownBlock with
  | none =>
    refine ⟨[(R, o1)], fun k hk => ?_, fun p hp => ?_⟩
    · rcases hk with rfl | hk
      · exact ⟨o1, by simp⟩
      · rw [hv] at hk; cases hk
    · simp at hp; subst hp; exact ⟨.inl rfl, h1⟩
  | some g2 =>
    obtain ⟨o2, h2⟩ := g g2 (.inr hv)
    refine ⟨[(R, o1), (g2, o2)], fun k hk => ?_, fun p hp => ?_⟩
    · rcases hk with rfl | hk
      · exact ⟨o1, by simp⟩
      · rw [hv] at hk; injection hk with hk; subst hk; exact ⟨o2, by simp⟩
    · simp at hp
      rcases hp with rfl | rfl
      · exact ⟨.inl rfl, h1⟩
      · exact ⟨.inr hv, h2⟩
theorem rec_of_eq {B : Nat} {W W' : World} {R : Nat} {vs : Value} {l : List (Int × Int)} (h : Rec B W R vs l) (he : ∀ k, Blk R vs k → W'.heap[k]? = W.heap[k]?) : Rec B W' R vs l := by
  refine ⟨h.1, (he R (.inl rfl)).trans h.2.1, h.2.2.1, ?_⟩
  rcases h.2.2.2 with h0 | ⟨g, cap, cur, e, hb, hg, hr⟩
  · exact .inl h0
  · exact .inr ⟨g, cap, cur, e, hb, (he g (.inr (by rw [e]; rfl))).trans hg, hr⟩
/-- two Recorders beside boxes -/
structure Two (B : Nat) (w : World) (R : Nat) (l : List (Int × Int)) (S : Nat) (m : List (Int × Int)) (bl bx : List (Nat × Obj)) (vs : Value) (W : World) : Prop where
  ev : Ev B w (.pointer (some ⟨R, 0, none⟩)) l (bl ++ bx) W
  rc : Rec B W S vs m
  cov : ∀ k, Blk S vs k → ∃ o, (k, o) ∈ bl
  sub : ∀ p ∈ bl, Blk S vs p.1
  dis : ∀ p ∈ bx, ¬ Blk S vs p.1
section
variable {B : Nat} {w : World} {R S : Nat} {l l' m : List (Int × Int)} {bl bx bx' : List (Nat × Obj)} {vs : Value} {W W' : World}
theorem Two.step (h : Two B w R l S m bl bx vs W) (h' : Ev B w (.pointer (some ⟨R, 0, none⟩)) l' (bl ++ bx) W') : Two B w R l' S m bl bx vs W' :=
  ⟨h', rec_of_eq h.rc (fun k hk => by
    obtain ⟨o, ho⟩ := h.cov k hk
    rw [h'.row (List.mem_append_left _ ho), h.ev.row (List.mem_append_left _ ho)]), h.cov, h.sub, h.dis⟩
theorem Two.swap (h : Two B w R l S m bl bx vs W) : ∃ bl' vs', Two B w S m R l bl' bx vs' W := by
  obtain ⟨vr, r1, r2⟩ := h.ev.recOf
  obtain ⟨bl', c1, c2⟩ := blk_list r1
  refine ⟨bl', vr, ⟨h.ev.old, h.ev.le, fun p hp => ?_, fun p hp => ?_, .inr ⟨S, vs, rfl, h.rc, fun p hp => ?_⟩⟩, r1, c1, fun p hp => (c2 p hp).1, fun p hp => r2 p (List.mem_append_right _ hp)⟩
  · rcases List.mem_append.1 hp with hp | hp
    · exact r1.ge _ (c2 p hp).1
    · exact h.ev.ge p (List.mem_append_right _ hp)
  · rcases List.mem_append.1 hp with hp | hp
    · exact (c2 p hp).2
    · exact h.ev.at' p (List.mem_append_right _ hp)
  · rcases List.mem_append.1 hp with hp | hp
    · intro hk
      obtain ⟨o, ho⟩ := h.cov _ hk
      exact r2 _ (List.mem_append_left _ ho) (c2 p hp).1
    · exact h.dis p hp
/-- the same, the blocks unnamed -/
def TwoE (B : Nat) (w : World) (R : Nat) (l : List (Int × Int)) (S : Nat) (m : List (Int × Int)) (bx : List (Nat × Obj)) (W : World) : Prop := ∃ bl vs, Two B w R l S m bl bx vs W
theorem TwoE.swap (h : TwoE B w R l S m bx W) : TwoE B w S m R l bx W := by
  obtain ⟨bl, vs, h⟩ := h
  exact h.swap
theorem TwoE.old (h : TwoE B w R l S m bx W) : Below B w W := by obtain ⟨_, _, h⟩ := h; exact h.ev.old
theorem TwoE.le (h : TwoE B w R l S m bx W) : B ≤ W.heap.size := by obtain ⟨_, _, h⟩ := h; exact h.ev.le
theorem TwoE.row (h : TwoE B w R l S m bx W) {g : Nat} {x : Obj} (hp : (g, x) ∈ bx) : W.heap[g]? = some x := by obtain ⟨_, _, h⟩ := h; exact h.ev.row (List.mem_append_right _ hp)
theorem TwoE.below (h : TwoE B w R l S m bx W) (hb : Below W.heap.size W W') : TwoE B w R l S m bx W' := by
  obtain ⟨bl, vs, h⟩ := h
  exact ⟨bl, vs, h.step (h.ev.below hb)⟩
/-- two new ones -/
theorem two_new (h : Ev B w (.pointer none) l' ((R, bxR) :: (S, bxR) :: bx) W) (h1 : R ≠ S) (h2 : ∀ p ∈ bx, p.1 ≠ R ∧ p.1 ≠ S) : TwoE B w R [] S [] bx W := by
  have hz : ∀ k, ¬ (Value.slice none 0 0).ownBlock = some k := fun k hk => by cases hk
  refine ⟨[(S, bxR)], .slice none 0 0, ⟨h.old, h.le, fun p hp => h.ge p (List.mem_cons_of_mem _ hp), fun p hp => h.at' p (List.mem_cons_of_mem _ hp), .inr ⟨R, _, rfl, rec_zero (h.row mem0) (h.ge _ mem0), fun p hp hk => ?_⟩⟩, rec_zero (h.row mem1) (h.ge _ mem1), fun k hk => ?_, fun p hp => ?_, fun p hp hk => ?_⟩
  · rcases hk with hk | hk
    · rcases List.mem_cons.1 hp with rfl | hp
      · exact h1 hk.symm
      · exact (h2 p hp).1 hk
    · exact hz _ hk
  · rcases hk with rfl | hk
    · exact ⟨_, mem0⟩
    · exact absurd hk (hz _)
  · rw [List.mem_singleton.1 hp]; exact .inl rfl
  · rcases hk with hk | hk
    · exact (h2 p hp).2 hk
    · exact hz _ hk
theorem TwoE.of (h : TwoE B w R l S m bx W) (hB : Beg w) (h2 : 2 ≤ B) {a : Option Addr} {n cap : Nat} {Ds : List (List Int)} (hP : PSrc B w bx a n Ds) (hD : BytL Ds) (hl : l.length + 25 * n + Ds.flatten.length ≤ 600000) :
    Calls Tryd.prog 13 #[.pointer (some ⟨R, 0, none⟩), .slice a n cap] W fun e w' => ∃ v, e = .returned v ∧ TwoE B w R (l ++ olg (Ds.map List.length)) S m bx w' := by
  obtain ⟨bl, vs, h⟩ := h
  refine (dof_any (cap := cap) h.ev (hP.sub (fun p hp => List.mem_append_right _ hp)) hD (fun _ => hl) (by omega) hB h2).mono ?_
  rintro e w' ⟨rfl, h'⟩
  exact ⟨_, rfl, bl, vs, h.step h'⟩
theorem Two.front {g : Nat} {o : Obj} (h : Two B w R l S m bl ((g, o) :: bx) vs W) (hne : ∀ p ∈ bx, p.1 ≠ g) : Ev B w (.pointer (some ⟨R, 0, none⟩)) l ((g, o) :: (bl ++ bx)) W ∧ ∀ p ∈ bl ++ bx, p.1 ≠ g := by
  refine ⟨h.ev.sub (fun p hp => List.perm_middle.mem_iff.2 hp), fun p hp e => ?_⟩
  rcases List.mem_append.1 hp with hp | hp
  · exact h.dis (g, o) mem0 (by have := h.sub p hp; rw [e] at this; exact this)
  · exact hne p hp e
theorem Two.back {g : Nat} {o o' : Obj} (h : Two B w R l S m bl ((g, o) :: bx) vs W) (h' : Ev B w (.pointer (some ⟨R, 0, none⟩)) l' ((g, o') :: (bl ++ bx)) W') : Two B w R l' S m bl ((g, o') :: bx) vs W' :=
  ⟨h'.sub (fun p hp => List.perm_middle.mem_iff.1 hp), rec_of_eq h.rc (fun k hk => by
    obtain ⟨y, hy⟩ := h.cov k hk
    rw [h'.row (memr1 (List.mem_append_left _ hy)), h.ev.row (List.mem_append_left _ hy)]), h.cov, h.sub, fun p hp => by
    rcases List.mem_cons.1 hp with rfl | hp
    · exact h.dis (g, o) mem0
    · exact h.dis p (memr1 hp)⟩
theorem TwoE.new (h : TwoE B w R l S m bx W) (hl : l.length ≤ 900000) (s : Nat) (hs : 1 ≤ s ∧ s ≤ 32) (hB : Beg w) (h2 : 2 ≤ B) (kv : Value) (D : List Int) (hk : Src B w bx kv D) (h32 : D.length ≤ 32) (hD : Byb D) :
    Calls Tryd.prog 5 #[.pointer (some ⟨R, 0, none⟩), .int .i64 (s : Int), kv] W fun e w' => ∃ g b, e = .returned (.tuple #[.pointer (some ⟨g, 0, none⟩), .nilIface]) ∧ (∀ p ∈ bx, p.1 ≠ g) ∧ HSb (fil D) b ∧ TwoE B w R (l ++ nlg D) S m ((g, hst (.pointer (some ⟨R, 0, none⟩)) s (h0 s D.length) (fil D) b) :: bx) w' := by
  obtain ⟨bl, vs, h⟩ := h
  refine (dnew_any h.ev (fun _ => hl) s hs hB h2 kv D (hk.sub (fun p hp => List.mem_append_right _ hp)) h32 hD).mono ?_
  rintro e w' ⟨g, rfl, o, hne, hSt, he⟩
  obtain ⟨b, k1, rfl⟩ := hSt.blk
  refine ⟨g, b, rfl, fun p hp => hne p (List.mem_append_right _ hp), k1, bl, vs, he.sub (fun p hp => List.perm_middle.mem_iff.1 hp), rec_of_eq h.rc (fun k hk => ?_), h.cov, h.sub, fun p hp => ?_⟩
  · obtain ⟨y, hy⟩ := h.cov k hk
    rw [he.row (memr1 (List.mem_append_left _ hy)), h.ev.row (List.mem_append_left _ hy)]
  · rcases List.mem_cons.1 hp with rfl | hp
    · intro hk
      obtain ⟨y, hy⟩ := h.cov _ hk
      exact hne _ (List.mem_append_left _ hy) rfl
    · exact h.dis p hp
theorem TwoE.newBad (h : TwoE B w R l S m bx W) (hl : l.length ≤ 900000) (z : Int) (ev : Value) (hE : w.cell? ⟨0, 0, none⟩ = some ev) (h2 : 1 ≤ B) (ka : Option Addr) (k cap : Nat) (hbad : z < 1 ∨ 32 < z ∨ 32 < k) :
    Calls Tryd.prog 5 #[.pointer (some ⟨R, 0, none⟩), .int .i64 z, .slice ka k cap] W fun e w' => e = .returned (.tuple #[.pointer none, ev]) ∧ TwoE B w R (l ++ blg z) S m bx w' := by
  obtain ⟨bl, vs, h⟩ := h
  refine (dnew_bad h.ev (fun _ => hl) z ev hE h2 ka k cap hbad).mono ?_
  rintro e w' ⟨rfl, he⟩
  exact ⟨rfl, bl, vs, h.step he⟩
theorem TwoE.write {g s : Nat} {hh : List Nat} {A D b : List Int} {v : Value} (h : TwoE B w R l S m ((g, hst (.pointer (some ⟨R, 0, none⟩)) s hh A b) :: bx) W) (hS : HSb A b) (h8 : S8 hh) (hl : l.length + D.length ≤ 800000) (hne : ∀ p ∈ bx, p.1 ≠ g) (hsrc : Src B w bx v D) (hDb : Byb D) (hlen : A.length + D.length < 4611686018427387904) (hB : Beg w) (h2 : 2 ≤ B) :
    Calls Tryd.prog 8 #[.pointer (some ⟨g, 0, none⟩), v] W fun e w' => e = .returned (.tuple #[]) ∧ ∃ b2, HSb (A ++ D) b2 ∧ TwoE B w R (l ++ wl (hld A).length D.length) S m ((g, hst (.pointer (some ⟨R, 0, none⟩)) s hh (A ++ D) b2) :: bx) w' := by
  obtain ⟨bl, vs, h⟩ := h
  obtain ⟨k1, k2⟩ := h.front hne
  refine (dwrite_src hS k1 h8 (fun _ => hl) k2 (hsrc.sub (fun p hp => List.mem_append_right _ hp)) hDb hlen hB h2).mono ?_
  rintro e w' ⟨rfl, b2, j1, j2⟩
  exact ⟨rfl, b2, j1, bl, vs, h.back j2⟩
theorem TwoE.sum {g s : Nat} {hh : List Nat} {A b : List Int} (h : TwoE B w R l S m ((g, hst (.pointer (some ⟨R, 0, none⟩)) s hh A b) :: bx) W) (hS : HSb A b) (h8 : S8 hh) (hs : s ≤ 32) (hl : l.length ≤ 900000) (hne : ∀ p ∈ bx, p.1 ≠ g) (hlen : A.length < 4611686018427387904) (hB : Beg w) (h2 : 2 ≤ B) :
    Calls Tryd.prog 9 #[.pointer (some ⟨g, 0, none⟩)] W fun e w' => ∃ u, e = .returned u ∧ TwoE B w R (l ++ [(2, ((hld A).length : Int)), (3, 31)]) S m ((g, hst (.pointer (some ⟨R, 0, none⟩)) s hh A b) :: bx) w' := by
  obtain ⟨bl, vs, h⟩ := h
  obtain ⟨k1, k2⟩ := h.front hne
  refine (dsum_any hS k1 h8 hs (fun _ => hl) k2 hlen hB h2).mono ?_
  rintro e w' ⟨g2, rfl, _, j2⟩
  exact ⟨_, rfl, bl, vs, h.back j2.tail⟩
theorem TwoE.same (h : TwoE B w R l S m bx W) (hl : l.length ≤ 1000000000) : Calls Tryd.prog 14 #[.pointer (some ⟨R, 0, none⟩), .pointer (some ⟨S, 0, none⟩)] W fun e w' => e = .returned (.bool (l == m)) ∧ TwoE B w R l S m bx w' := by
  obtain ⟨bl, vs, h⟩ := h
  obtain ⟨vr, r1, r2⟩ := h.ev.recOf
  refine (tsame_any _ _ vr vs l m W r1.opt h.rc.opt hl).mono ?_
  rintro e w' ⟨he, n, rfl⟩
  exact ⟨he, bl, vs, h.step (h.ev.below ⟨rfl, rfl, rfl, Nat.le_refl _, fun _ _ => rfl⟩)⟩
theorem TwoE.total (h : TwoE B w R l S m bx W) : Calls Tryd.prog 15 #[.pointer (some ⟨R, 0, none⟩)] W fun e w' => e = .returned (.int .i64 l.length) ∧ w' = W := by
  obtain ⟨bl, vs, h⟩ := h
  exact v_total h.ev
end
theorem Ev.setAtH {B : Nat} {w : World} {rv : Value} {l : List (Int × Int)} {bx : List (Nat × Obj)} {W : World} {g : Nat} {M : List Int} {T : TypeId} (h : Ev B w rv l ((g, .cells (VI .u8 M) T) :: bx) W) (hne : ∀ p ∈ bx, p.1 ≠ g) (i : Nat) (hi : i < M.length) (v : Int) :
    W.cell? ⟨g, i, none⟩ = some (.int .u8 (M.getD i 0)) ∧ W.frozen? ⟨g, i, none⟩ = false ∧ Ev B w rv l ((g, .cells (VI .u8 (M.set i v)) T) :: bx) (W.setCell ⟨g, i, none⟩ (.int .u8 v)) := by
  have hr := h.row mem0
  refine ⟨by rw [cell_of_row W _ _ _ _ _ hr, VI_at _ _ _ hi], frozen_of_row W _ _ _ _ hr, ?_⟩
  refine h.set rfl hne ((Grow.refl (fun k => k = g) W).setCell (p := ⟨g, i, none⟩) (.inl rfl) _) ?_
  rw [heap_setCell_same W _ _ _ _ _ hr]
  simp [VI, List.map_set]
theorem rdb_at {W : World} {q : Nat} (hq : W.heap.size = q) {a : Option Addr} {n cap : Nat} {D : List Int} (hR : RdB W (.slice a n cap) D) : D.length = n ∧ n ≤ cap ∧ ∀ i, i < n → ∃ b o, a = some ⟨b, o, none⟩ ∧ b < q ∧ ∀ Y, Below q W Y → Y.cell? ⟨b, o + i, none⟩ = some (.int .u8 (D.getD i 0)) := by
  obtain ⟨a', c', e, hc, h3⟩ := hR
  injection e with e1 e2 e3
  subst e1
  have hDn : D.length = n := e2.symm
  refine ⟨hDn, by rw [e3, ← hDn]; exact hc, fun i hi => ?_⟩
  rcases h3 with h3 | ⟨b, o, h3, h4⟩
  · rw [h3] at hDn; simp at hDn; omega
  · have := h4 i (.int .u8 (D.getD i 0)) (by rw [List.getElem?_map, List.getD_eq_getElem?_getD, List.getElem?_eq_getElem (by omega)]; rfl)
    have hlt : b < q := by rw [← hq]; exact World.block_lt_of_cell? W _ this
    refine ⟨b, o, h3, hlt, fun Y hY => ?_⟩
    rw [World.cell?_of_block (a := ⟨b, o + i, none⟩) (hY.block b hlt)]
    exact this
/-- the twin: a piece, its box -/
def twp (p : Nat × List Int) : Value := .slice (some ⟨p.1, 0, none⟩) p.2.length p.2.length
def tbx (K : List (Nat × List Int)) : List (Nat × Obj) := K.map fun p => (p.1, Obj.cells (VI .u8 p.2) 5)
def BL (q : Nat) (W : World) (bx : List (Nat × Obj)) (K : List (Nat × List Int)) (v : Value) (w' : World) : Prop :=
  ∃ lt, Lst 22 1 v K.length (K.map twp) lt ∧ Ev q W (.pointer none) [] (lt ++ (tbx K ++ bx)) w' ∧ ∀ p ∈ lt, ∀ r ∈ tbx K ++ bx, r.1 ≠ p.1
theorem psrc_twp {B : Nat} {w : World} {K : List (Nat × List Int)} {u : Value} {l2 : List (Nat × Obj)} (h : Lst 22 1 u K.length (K.map twp) l2) (hm : K.length ≤ maxLen) {bx : List (Nat × Obj)} (h2 : ∀ p ∈ l2, p ∈ bx) (hr : ∀ p ∈ tbx K, p ∈ bx) : ∃ au cu, u = .slice au K.length cu ∧ PSrc B w bx au K.length (K.map Prod.snd) := by
  obtain ⟨au, cu, hu⟩ : ∃ au cu, u = .slice au K.length cu := by
    rcases h.2 with ⟨e1, e2, _⟩ | ⟨g, cap, cur, e1, _⟩
    · exact ⟨none, 0, by rw [e1, e2]⟩
    · exact ⟨_, _, e1⟩
  refine ⟨au, cu, hu, ⟨List.length_map .., hm⟩, fun j hj => ?_⟩
  have hp : (K.map twp)[j]? = some (twp K[j]) := by rw [List.getElem?_map, List.getElem?_eq_getElem hj]; rfl
  have hD : (K.map Prod.snd).getD j [] = (K[j]).2 := by rw [List.getD_eq_getElem?_getD, List.getElem?_map, List.getElem?_eq_getElem hj]; rfl
  rcases h.2 with ⟨_, e, _⟩ | ⟨g, cap, cur, e1, e2, e3, e4, e5, e6⟩
  · omega
  · rw [hu] at e1
    injection e1 with e1 _ _
    refine ⟨g, 0, twp K[j], e1, fun Y _ hq => ?_, ?_⟩
    · have hrow := hq (g, .cells cur 22 (0, 0)) (h2 _ (by rw [e2]; exact mem0))
      rw [cell_of_row Y _ _ _ _ _ hrow, Nat.zero_add, ← hp, ← e6, List.getElem?_take_of_lt (by omega)]
      simp
    · rw [hD]
      have hmem : ((K[j]).1, Obj.cells (VI .u8 (K[j]).2) 5) ∈ bx := hr _ (List.mem_map.2 ⟨K[j], List.getElem_mem hj, rfl⟩)
      have := src_box (B := B) (w := w) hmem 0 (K[j]).2.length (K[j]).2.length (by omega) (by omega)
      rw [List.drop_zero, List.take_length] at this
      exact this
/-- a piece comes to the twin -/
theorem bl_app {q : Nat} {W : World} {bx : List (Nat × Obj)} {K : List (Nat × List Int)} {v : Value} {lt : List (Nat × Obj)} {p : Nat} {D : List Int} {m : Nat} {wr : World} (hL : Lst 22 1 v K.length (K.map twp) lt) (h : Ev q W (.pointer none) [] ((p, Obj.cells (VI .u8 D) 5) :: (lt ++ (tbx K ++ bx))) wr) (hd : ∀ r ∈ lt, ∀ s ∈ tbx K ++ bx, s.1 ≠ r.1) (hp : ∀ r ∈ lt ++ (tbx K ++ bx), r.1 ≠ p) (hm : D.length = m) (hK : K.length ≤ 1000) (ty : TypeId) :
    ∃ v' w', (Builtin.append_ #[35, 35] ty #[v, .slice (some ⟨wr.heap.size, 0, none⟩) 1 1]).run Tryd.prog (wr.alloc (.cells #[.slice (some ⟨p, 0, none⟩) m m] 22)) = .ok v' w' ∧ BL q W bx (K ++ [(p, D)]) v' w' := by
  subst hm
  have h1 := h.below (w' := wr.alloc (.cells #[.slice (some ⟨p, 0, none⟩) D.length D.length] 22)) ((Below.refl _ _).alloc (Nat.le_refl _) _)
  have h2 := h1.sub (by' := lt ++ ((p, Obj.cells (VI .u8 D) 5) :: (tbx K ++ bx))) (fun r hr => by
    simp only [List.mem_append, List.mem_cons] at hr ⊢
    rcases hr with hr | hr | hr | hr
    · exact .inr (.inl hr)
    · exact .inl hr
    · exact .inr (.inr (.inl hr))
    · exact .inr (.inr (.inr hr)))
  obtain ⟨v', w', hr, lb', k1, k2, k3⟩ := h2.appS hL (fun r hr s hs => by
    rcases List.mem_cons.1 hs with rfl | hs
    · exact fun e => hp r (List.mem_append_left _ hr) e.symm
    · exact hd r hr s hs) ty (g := wr.heap.size) (a := some ⟨p, 0, none⟩) (m := D.length) (c := D.length) (heap_alloc_new wr _) hK
  refine ⟨v', w', hr, lb', ?_, k2.sub (fun r hr => ?_), fun r hr s hs => k3 r hr s ?_⟩
  · rw [List.length_append, List.map_append]; exact k1
  · simp only [tbx, List.map_append, List.map_cons, List.map_nil, List.mem_append, List.mem_cons, List.not_mem_nil, or_false] at hr ⊢
    rcases hr with hr | (hr | hr) | hr
    · exact .inl hr
    · exact .inr (.inr (.inl hr))
    · exact .inr (.inl hr)
    · exact .inr (.inr (.inr hr))
  · simp only [tbx, List.map_append, List.map_cons, List.map_nil, List.mem_append, List.mem_cons, List.not_mem_nil, or_false] at hs ⊢
    rcases hs with (hs | hs) | hs
    · exact .inr (.inl hs)
    · exact .inl hs
    · exact .inr (.inr hs)
end Go.Proofs.YtfkbgodfcnmepabDoor
