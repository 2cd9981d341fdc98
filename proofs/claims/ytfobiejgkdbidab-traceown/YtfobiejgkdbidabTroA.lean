import Derived.Test.YtfobiejgkdbidabTraceRecX
namespace Go.Proofs.Ytfobiejgkdbidab
set_option linter.unusedSimpArgs false
set_option linter.unusedVariables false
open Go.ChangeShapes Go.WideShapes Go.ChangeAt Go.RowKit Go.Pin
/-- a piece of memory: what it says, which blocks it lies in -/
structure It where
  holds : World → Prop
  blk : Nat → Prop
  lt : ∀ W k, holds W → blk k → k < W.heap.size
  kept : ∀ W W' S, Grow S W W' → (∀ k, blk k → ¬ S k) → holds W → holds W'
def itNil : It := ⟨fun _ => True, fun _ => False, fun _ _ _ h => h.elim, fun _ _ _ _ _ h => h⟩
def itRec (B R : Nat) (vs : Value) (l : List (Int × Int)) : It :=
  ⟨fun W => Rec B W R vs l, Blk R vs, fun W k h hk => h.lt k hk, fun W W' S hg hn h => h.grow hg hn⟩
def itBox (g : Nat) (x : Obj) : It :=
  ⟨fun W => W.heap[g]? = some x, fun k => k = g, fun W k h hk => hk ▸ (Array.getElem?_eq_some_iff.1 h).1,
   fun W W' S hg hn h => (hg.block g (Array.getElem?_eq_some_iff.1 h).1 (hn g rfl)).trans h⟩
def itRow (B : Nat) (e : TypeId) (sz : Nat) (v : Value) (n : Nat) (xs : List Value) : It :=
  ⟨fun W => W.ownsRow B e sz v n xs, fun k => v.ownBlock = some k, fun W k h hk => (h.lt k hk).2, fun W W' S hg hn h => hg.owns h hn⟩
/-- where a list of one's own lies: nowhere, or at a block's beginning -/
def Sh (v : Value) (n : Nat) : Prop := (v = .slice none 0 0 ∧ n = 0) ∨ ∃ g c, v = .slice (some ⟨g, 0, none⟩) n c
theorem sh_owns {w : World} {B : Nat} {e : TypeId} {sz : Nat} {v : Value} {n : Nat} {xs : List Value} (h : w.ownsRow B e sz v n xs) : Sh v n := by
  rcases h.2 with ⟨rfl, rfl⟩ | ⟨g, cap, cur, rfl, _⟩
  · exact .inl ⟨rfl, rfl⟩
  · exact .inr ⟨g, cap, rfl⟩
theorem sl_lt {w : World} {v : Value} {sz n : Nat} {cs : List Value} (h : Sl w v sz cs n) (hn : 0 < n * sz) : ∀ k, v.ownBlock = some k → k < w.heap.size := by
  obtain ⟨h1, a, c, rfl, hc, hr⟩ := h
  rcases hr with h0 | ⟨b, o, rfl, hcs⟩
  · subst h0; simp at hn
  · rintro k hk
    simp only [Value.ownBlock, Option.some.injEq] at hk
    subst hk
    have := hcs 0 _ (List.getElem?_eq_getElem (by rw [h1]; exact hn))
    apply Classical.byContradiction
    intro hge
    rw [World.cell?, Array.getElem?_eq_none (Nat.le_of_not_lt hge)] at this
    cases this
/-- a list v1 that is read, and one v2 of one's own that begins with it, in its block or in another -/
def itTwo (B : Nat) (e : TypeId) (sz : Nat) (v1 : Value) (n1 : Nat) (xs : List Value) (v2 : Value) (n2 : Nat) (ys : List Value) : It :=
  ⟨fun W => (Sl W v1 sz xs n1 ∧ Sh v1 n1 ∧ ∀ k, v1.ownBlock = some k → k < W.heap.size) ∧ W.ownsRow B e sz v2 n2 (xs ++ ys), fun k => v1.ownBlock = some k ∨ v2.ownBlock = some k,
   fun W k h hk => hk.elim (fun hk => h.1.2.2 k hk) (fun hk => (h.2.lt k hk).2),
   fun W W' S hg hn h => ⟨⟨sl_grow hg h.1.1 fun k hk => hn k (.inl hk), h.1.2.1, fun k hk => Nat.lt_of_lt_of_le (h.1.2.2 k hk) hg.size⟩, hg.owns h.2 fun k hk => hn k (.inr hk)⟩⟩
/-- v1 reads as it read behind an append to v2 -/
theorem two_app {w w' : World} {B : Nat} {e : TypeId} {sz : Nat} {v1 v2 : Value} {n1 n2 : Nat} {xs ys : List Value} (h1 : Sl w v1 sz xs n1) (hs : Sh v1 n1) (h2 : w.ownsRow B e sz v2 n2 (xs ++ ys))
    (hg : w.grownBy w' v2.ownBlock) (hr : Sl w' v2 sz (xs ++ ys) n2) : Sl w' v1 sz xs n1 := by
  rcases hs with ⟨rfl, rfl⟩ | ⟨g, c, rfl⟩
  · exact ⟨h1.1, none, 0, rfl, Nat.le_refl _, .inl rfl⟩
  · by_cases e : v2.ownBlock = some g
    · obtain ⟨l1, a1, c1, e1, hc, hd⟩ := h1
      refine ⟨l1, a1, c1, e1, hc, ?_⟩
      cases e1
      rcases hd with h0 | _
      · exact .inl h0
      · refine .inr ⟨g, 0, rfl, fun j x hx => ?_⟩
        have hj := (List.getElem?_eq_some_iff.1 hx).1
        obtain ⟨l2, a2, c2, e2, _, hd2⟩ := hr
        subst e2
        rcases hd2 with h0 | ⟨b, o, rfl, hcs⟩
        · subst h0; rw [Nat.zero_mul, List.length_append] at l2; omega
        · have ho := sh_owns h2
          rcases ho with ⟨q, _⟩ | ⟨g', c', q⟩
          · cases q
          · cases q
            simp only [Value.ownBlock, Option.some.injEq] at e
            subst e
            exact hcs j x (by rw [List.getElem?_append_left hj]; exact hx)
    · refine sl_grow (S := fun k => v2.ownBlock = some k) ⟨hg.os, hg.tape, hg.output, hg.size, fun k hk hn => hg.block k hk (fun q => hn q.symm)⟩ h1 ?_
      rintro k hk q
      simp only [Value.ownBlock, Option.some.injEq] at hk
      subst hk
      exact e q
def upd (it : Nat → It) (c : Nat) (x : It) : Nat → It := fun d => if d = c then x else it d
theorem upd_at (it : Nat → It) (c : Nat) (x : It) : upd it c x c = x := if_pos rfl
theorem upd_ne (it : Nat → It) {c d : Nat} (x : It) (h : d ≠ c) : upd it c x d = it d := if_neg h
/-- pieces by their roles: no two roles share a block -/
structure Os (B : Nat) (w : World) (it : Nat → It) (W : World) : Prop where
  old : Below B w W
  le : B ≤ W.heap.size
  hold : ∀ c, (it c).holds W
  role : ∃ ρ : Nat → Nat, ∀ c k, (it c).blk k → ρ k = c ∧ B ≤ k
theorem Os.grow {B : Nat} {w W W' : World} {it : Nat → It} (h : Os B w it W) (c : Nat) (hg : Grow (fun k => (it c).blk k) W W') (x : It) (hx : x.holds W')
    (hb : ∀ k, x.blk k → (it c).blk k ∨ W.heap.size ≤ k) : Os B w (upd it c x) W' := by
  obtain ⟨ρ, hρ⟩ := h.role
  have hS : ∀ k, (it c).blk k → B ≤ k := fun k hk => (hρ c k hk).2
  refine ⟨h.old.trans (hg.below hS h.le), Nat.le_trans h.le hg.size, fun d => ?_, fun k => if k < W.heap.size then ρ k else c, fun d k hk => ?_⟩
  · by_cases e : d = c
    · subst e; rw [upd_at]; exact hx
    · rw [upd_ne _ _ e]
      exact (it d).kept W W' _ hg (fun k hk hc => e (((hρ d k hk).1).symm.trans (hρ c k hc).1)) (h.hold d)
  · by_cases e : d = c
    · subst e; rw [upd_at] at hk
      rcases hb k hk with h1 | h1
      · refine ⟨?_, (hρ d k h1).2⟩
        show (if k < W.heap.size then ρ k else d) = d
        split
        · exact (hρ d k h1).1
        · rfl
      · exact ⟨if_neg (by omega), Nat.le_trans h.le h1⟩
    · rw [upd_ne _ _ e] at hk
      have hl := (it d).lt W k (h.hold d) hk
      exact ⟨(if_pos hl).trans (hρ d k hk).1, (hρ d k hk).2⟩
theorem Os.below {B : Nat} {w W W' : World} {it : Nat → It} (h : Os B w it W) (hb : Below W.heap.size W W') : Os B w it W' :=
  ⟨h.old.trans (hb.mono h.le), Nat.le_trans h.le hb.size, fun c => (it c).kept W W' (fun _ => False) (Grow.of_below hb) (fun _ _ h => h) (h.hold c), h.role⟩
/-- a new piece at a role that was free -/
theorem Os.new {B : Nat} {w W W' : World} {it : Nat → It} (h : Os B w it W) (c : Nat) (hb : Below W.heap.size W W') (x : It) (hx : x.holds W') (hn : ∀ k, x.blk k → W.heap.size ≤ k) : Os B w (upd it c x) W' :=
  h.grow c (Grow.of_below hb) x hx (fun k hk => .inr (hn k hk))
theorem os_nil (w : World) : Os w.heap.size w (fun _ => itNil) w := ⟨Below.refl _ _, Nat.le_refl _, fun _ => trivial, fun _ => 0, fun _ _ h => h.elim⟩
theorem Os.drew {B : Nat} {w W : World} {it : Nat → It} (h : Os B w it W) : Os B w it W.drew := h.below (Below.refl _ _).drew
/-- one cell of a box -/
theorem Os.set {B : Nat} {w W : World} {it : Nat → It} (h : Os B w it W) (c g : Nat) {x x' : Obj} (he : it c = itBox g x) {W' : World} (hW' : W'.heap[g]? = some x') (hG : Grow (fun k => k = g) W W') : Os B w (upd it c (itBox g x')) W' :=
  h.grow c (by rw [he]; exact hG) _ hW' (fun k hk => .inl (by rw [he]; exact hk))
theorem Os.box {B : Nat} {w W : World} {it : Nat → It} (h : Os B w it W) (c : Nat) {g : Nat} {x : Obj} (he : it c = itBox g x) : W.heap[g]? = some x := by have := h.hold c; rw [he] at this; exact this
theorem Os.row {B : Nat} {w W : World} {it : Nat → It} (h : Os B w it W) (c : Nat) {B' : Nat} {e : TypeId} {sz : Nat} {v : Value} {n : Nat} {xs : List Value} (he : it c = itRow B' e sz v n xs) : W.ownsRow B' e sz v n xs := by have := h.hold c; rw [he] at this; exact this
theorem Os.rec' {B : Nat} {w W : World} {it : Nat → It} (h : Os B w it W) (c : Nat) {B' R : Nat} {vs : Value} {l : List (Int × Int)} (he : it c = itRec B' R vs l) : Rec B' W R vs l := by have := h.hold c; rw [he] at this; exact this
/-- the law's pieces: the Recorder, what was wanted, boxes of four slices, the rows behind them -/
def sit (p0 p1 p2 p3 p4 p5 p6 : It) (xL xR : Nat → It) : Nat → It := fun c =>
  if c = 0 then p0 else if c = 1 then p1 else if c = 2 then p2 else if c = 3 then p3 else if c = 4 then p4 else if c = 5 then p5 else if c = 6 then p6
  else if 10 ≤ c ∧ c < 14 then xL (c - 10) else if 20 ≤ c ∧ c < 24 then xR (c - 20) else itNil
section
variable (p0 p1 p2 p3 p4 p5 p6 : It) (xL xR : Nat → It) (x : It)
theorem sit_L {i : Nat} (hi : i < 4) : sit p0 p1 p2 p3 p4 p5 p6 xL xR (10 + i) = xL i := by
  unfold sit; rw [if_neg (by omega), if_neg (by omega), if_neg (by omega), if_neg (by omega), if_neg (by omega), if_neg (by omega), if_neg (by omega), if_pos (by omega), show 10 + i - 10 = i by omega]
theorem sit_R {i : Nat} (hi : i < 4) : sit p0 p1 p2 p3 p4 p5 p6 xL xR (20 + i) = xR i := by
  unfold sit; rw [if_neg (by omega), if_neg (by omega), if_neg (by omega), if_neg (by omega), if_neg (by omega), if_neg (by omega), if_neg (by omega), if_neg (by omega), if_pos (by omega), show 20 + i - 20 = i by omega]
theorem upd_L {i : Nat} (hi : i < 4) : upd (sit p0 p1 p2 p3 p4 p5 p6 xL xR) (10 + i) x = sit p0 p1 p2 p3 p4 p5 p6 (upd xL i x) xR := by
  funext c
  by_cases e : c = 10 + i
  · subst e; rw [upd_at, sit_L _ _ _ _ _ _ _ _ _ hi, upd_at]
  · rw [upd_ne _ _ e]; unfold sit
    repeat' (split <;> try rfl)
    rw [upd_ne _ _ (by omega)]
theorem upd_R {i : Nat} (hi : i < 4) : upd (sit p0 p1 p2 p3 p4 p5 p6 xL xR) (20 + i) x = sit p0 p1 p2 p3 p4 p5 p6 xL (upd xR i x) := by
  funext c
  by_cases e : c = 20 + i
  · subst e; rw [upd_at, sit_R _ _ _ _ _ _ _ _ _ hi, upd_at]
  · rw [upd_ne _ _ e]; unfold sit
    repeat' (split <;> try rfl)
    rw [upd_ne _ _ (by omega)]
theorem upd_0 : upd (sit p0 p1 p2 p3 p4 p5 p6 xL xR) 0 x = sit x p1 p2 p3 p4 p5 p6 xL xR := by
  funext c; unfold upd sit
  by_cases e : c = 0
  · subst e; simp
  · simp only [if_neg e]
theorem upd_1 : upd (sit p0 p1 p2 p3 p4 p5 p6 xL xR) 1 x = sit p0 x p2 p3 p4 p5 p6 xL xR := by
  funext c; unfold upd sit
  by_cases e : c = 1
  · subst e; simp
  · simp only [if_neg e]
theorem upd_2 : upd (sit p0 p1 p2 p3 p4 p5 p6 xL xR) 2 x = sit p0 p1 x p3 p4 p5 p6 xL xR := by
  funext c; unfold upd sit
  by_cases e : c = 2
  · subst e; simp
  · simp only [if_neg e]
theorem upd_3 : upd (sit p0 p1 p2 p3 p4 p5 p6 xL xR) 3 x = sit p0 p1 p2 x p4 p5 p6 xL xR := by
  funext c; unfold upd sit
  by_cases e : c = 3
  · subst e; simp
  · simp only [if_neg e]
theorem upd_4 : upd (sit p0 p1 p2 p3 p4 p5 p6 xL xR) 4 x = sit p0 p1 p2 p3 x p5 p6 xL xR := by
  funext c; unfold upd sit
  by_cases e : c = 4
  · subst e; simp
  · simp only [if_neg e]
theorem upd_5 : upd (sit p0 p1 p2 p3 p4 p5 p6 xL xR) 5 x = sit p0 p1 p2 p3 p4 x p6 xL xR := by
  funext c; unfold upd sit
  by_cases e : c = 5
  · subst e; simp
  · simp only [if_neg e]
theorem upd_6 : upd (sit p0 p1 p2 p3 p4 p5 p6 xL xR) 6 x = sit p0 p1 p2 p3 p4 p5 x xL xR := by
  funext c; unfold upd sit
  by_cases e : c = 6
  · subst e; simp
  · simp only [if_neg e]
end
/-- four slices in a box -/
def box4 (v : Nat → Value) (t : TypeId) : Obj := .cells #[v 0, v 1, v 2, v 3] t (0, 0)
def updV (v : Nat → Value) (i : Nat) (u : Value) : Nat → Value := fun j => if j = i then u else v j
theorem box4_cell {W : World} {g : Nat} {v : Nat → Value} {t : TypeId} (h : W.heap[g]? = some (box4 v t)) {i : Nat} (hi : i < 4) : W.cell? ⟨g, i, none⟩ = some (v i) := by
  have : i = 0 ∨ i = 1 ∨ i = 2 ∨ i = 3 := by omega
  rcases this with rfl | rfl | rfl | rfl <;> simp [World.cell?, h, box4]
theorem box4_set {W : World} {g : Nat} {v : Nat → Value} {t : TypeId} (h : W.heap[g]? = some (box4 v t)) {i : Nat} (hi : i < 4) (u : Value) : (W.setCell ⟨g, i, none⟩ u).heap[g]? = some (box4 (updV v i u) t) := by
  rw [heap_setCell_same W _ _ _ _ _ h]
  have : i = 0 ∨ i = 1 ∨ i = 2 ∨ i = 3 := by omega
  rcases this with rfl | rfl | rfl | rfl <;> simp [box4, updV]
theorem box4_froz {W : World} {g : Nat} {v : Nat → Value} {t : TypeId} (h : W.heap[g]? = some (box4 v t)) (i : Nat) : W.frozen? ⟨g, i, none⟩ = false := by simp [World.frozen?, h, box4]
theorem grow_set (W : World) (g i : Nat) (u : Value) : Grow (fun k => k = g) W (W.setCell ⟨g, i, none⟩ u) := ⟨rfl, rfl, rfl, by simp, fun k _ hk => heap_setCell_other W ⟨g, i, none⟩ k u hk⟩
theorem Os.put4 {B : Nat} {w W : World} {it : Nat → It} (h : Os B w it W) (c g : Nat) {v : Nat → Value} {t : TypeId} (he : it c = itBox g (box4 v t)) {i : Nat} (hi : i < 4) (u : Value) : Os B w (upd it c (itBox g (box4 (updV v i u) t))) (W.setCell ⟨g, i, none⟩ u) :=
  h.set c g he (box4_set (h.box c he) hi u) (grow_set W g i u)
theorem sit_nil : sit itNil itNil itNil itNil itNil itNil itNil (fun _ => itNil) (fun _ => itNil) = fun _ => itNil := by
  funext c; unfold sit; repeat' (split <;> try rfl)
theorem updV_at (v : Nat → Value) (i : Nat) (u : Value) : updV v i u i = u := if_pos rfl
theorem updV_ne (v : Nat → Value) {i j : Nat} (u : Value) (h : j ≠ i) : updV v i u j = v j := if_neg h
theorem dn' {w : World} (m : Nat) : Below w.heap.size w (w.drewN m) := below_drewN' (Below.refl _ _) m
end Go.Proofs.Ytfobiejgkdbidab
