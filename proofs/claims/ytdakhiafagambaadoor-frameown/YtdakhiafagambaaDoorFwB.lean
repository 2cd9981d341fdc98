import Derived.Test.YtdakhiafagambaaDoorFrG
import Derived.Test.YtdakhiafagambaaDoorFrN
import Derived.Test.YtdakhiafagambaaDoorFwA
/- stage 20: a Reader, lists of bytes of one's own beside it, and a row of lists -/
namespace Go.Proofs.YtdakhiafagambaaDoor
set_option linter.unusedSimpArgs false
set_option linter.unusedVariables false
set_option maxRecDepth 100000
open Go.ChangeShapes Go.WideShapes Go.ChangeAt Go.RowKit Go.Pin
theorem parts_sl : (Tryd.prog.info? 22).map (fun i => (i.zero, i.size, i.bytes)) = some (some (.slice none 0 0), 1, 24) := by kernel_rfl
/-- the Reader g keeps H in the blocks F; the lists A are one's own; R is what the row vr has -/
structure RO (rep : Nat → List Int → List Nat → World → Prop) (q : Nat) (W0 : World) (g : Nat) (H : List Int) (F : List Nat) (vr : Value) (R : List Value) (A : List (Value × List Int)) (w : World) : Prop where
  lo : Below q W0 w
  qs : q ≤ w.heap.size
  rp : rep g H F w
  fq : ∀ k ∈ F, q ≤ k
  row : w.ownsRow q 22 1 vr R.length R
  rn : ∀ k, vr.ownBlock = some k → k ∉ F
  us : ∀ (t : Nat) u, A[t]? = some u → w.ownsRow q 5 1 u.1 u.2.length (u.2.map (Value.int .u8))
  un : ∀ (t : Nat) u, A[t]? = some u → ∀ k, u.1.ownBlock = some k → k ∉ F
  ud : ∀ (s t : Nat) u u' k, A[s]? = some u → A[t]? = some u' → u.1.ownBlock = some k → u'.1.ownBlock = some k → s = t
section
variable {rep : Nat → List Int → List Nat → World → Prop} {q : Nat} {W0 : World} {g : Nat} {H : List Int} {F : List Nat} {vr : Value} {R : List Value} {A : List (Value × List Int)} {w w' : World}
/-- blocks of two types -/
theorem own_two {w : World} {b b' : Nat} {e e' : TypeId} (hne : e ≠ e') {k k' n n' : Nat} {v v' : Value} {xs ys : List Value} (h : w.ownsRow b e k v n xs) (h' : w.ownsRow b' e' k' v' n' ys) {x : Nat} (hx : v.ownBlock = some x) : v'.ownBlock ≠ some x := fun hx' => by
  rcases h.2 with ⟨rfl, _⟩ | ⟨g1, c1, u1, rfl, _, h1, _⟩
  · cases hx
  · rcases h'.2 with ⟨rfl, _⟩ | ⟨g2, c2, u2, rfl, _, h2, _⟩
    · cases hx'
    · injection hx with hx
      injection hx' with hx'
      subst hx hx'
      rw [h1] at h2
      injection h2 with h2
      injection h2 with _ h2
      exact hne h2
theorem RO.keep (hR : RdrC rep) (h : RO rep q W0 g H F vr R A w) (hl : Below q w w') (hk : ∀ k, (k ∈ F ∨ vr.ownBlock = some k ∨ ∃ (t : Nat) (u : Value × List Int), A[t]? = some u ∧ u.1.ownBlock = some k) → w'.heap[k]? = w.heap[k]?) : RO rep q W0 g H F vr R A w' :=
  ⟨h.lo.trans hl, Nat.le_trans h.qs hl.size, hR.keep h.rp (fun k hk' => hk k (.inl hk')) hl.size, h.fq, own_keep h.row (fun k hk' => hk k (.inr (.inl hk'))), h.rn, fun t u hu => own_keep (h.us t u hu) (fun k hk' => hk k (.inr (.inr ⟨t, u, hu, hk'⟩))), h.un, h.ud⟩
theorem RO.lt (hR : RdrC rep) (h : RO rep q W0 g H F vr R A w) {k : Nat} (hk : k ∈ F ∨ vr.ownBlock = some k ∨ ∃ (t : Nat) (u : Value × List Int), A[t]? = some u ∧ u.1.ownBlock = some k) : q ≤ k ∧ k < w.heap.size := by
  rcases hk with hk | hk | ⟨t, u, hu, hk⟩
  · exact ⟨h.fq k hk, hR.lt h.rp k hk⟩
  · exact h.row.lt k hk
  · exact (h.us t u hu).lt k hk
theorem RO.below (hR : RdrC rep) (h : RO rep q W0 g H F vr R A w) (hb : Below w.heap.size w w') : RO rep q W0 g H F vr R A w' :=
  h.keep hR (hb.mono h.qs) (fun k hk => hb.block k (h.lt hR hk).2)
/-- a list more of one's own -/
theorem RO.add (h : RO rep q W0 g H F vr R A w) {v : Value} {C : List Int} (ho : w.ownsRow q 5 1 v C.length (C.map (Value.int .u8))) (hF : ∀ k, v.ownBlock = some k → k ∉ F) (hA : ∀ (t : Nat) (u : Value × List Int) k, A[t]? = some u → u.1.ownBlock = some k → v.ownBlock ≠ some k) : RO rep q W0 g H F vr R (A ++ [(v, C)]) w := by
  have hlast : ∀ (t : Nat) u, (A ++ [(v, C)])[t]? = some u → A[t]? = some u ∨ (t = A.length ∧ u = (v, C)) := fun t u hu => by
    rw [List.getElem?_append] at hu
    split at hu
    · exact .inl hu
    · right
      have h1 := (List.getElem?_eq_some_iff.1 hu).1
      simp only [List.length_singleton] at h1
      have h2 : t - A.length = 0 := by omega
      rw [h2] at hu
      exact ⟨by omega, by simpa using hu.symm⟩
  refine ⟨h.lo, h.qs, h.rp, h.fq, h.row, h.rn, fun t u hu => ?_, fun t u hu k hk => ?_, fun s t u u' k hs ht hk hk' => ?_⟩
  · rcases hlast t u hu with h1 | ⟨_, rfl⟩
    · exact h.us t u h1
    · exact ho
  · rcases hlast t u hu with h1 | ⟨_, rfl⟩
    · exact h.un t u h1 k hk
    · exact hF k hk
  · rcases hlast s u hs with h1 | ⟨e1, rfl⟩
    · rcases hlast t u' ht with h2 | ⟨e2, rfl⟩
      · exact h.ud s t u u' k h1 h2 hk hk'
      · exact absurd hk' (hA s u k h1 hk)
    · rcases hlast t u' ht with h2 | ⟨e2, rfl⟩
      · exact absurd hk (hA t u' k h2 hk')
      · omega
/-- what Put answers -/
theorem RO.put (hR : RdrC rep) (h : RO rep q W0 g H F vr R A w) (hb : Below w.heap.size w w') {v : Value} {C : List Int} (ho : w'.ownsRow w.heap.size 5 1 v C.length (C.map (Value.int .u8))) : RO rep q W0 g H F vr R (A ++ [(v, C)]) w' :=
  (h.below hR hb).add (own_dn ho h.qs) (fun k hk hm => by have := (ho.lt k hk).1; have := hR.lt h.rp k hm; omega) (fun t u k hu hk hk' => by have := (ho.lt k hk').1; have := ((h.us t u hu).lt k hk).2; omega)
theorem RO.tail {a : Value × List Int} (h : RO rep q W0 g H F vr R (a :: A) w) : RO rep q W0 g H F vr R A w :=
  ⟨h.lo, h.qs, h.rp, h.fq, h.row, h.rn, fun t u hu => h.us (t + 1) u hu, fun t u hu => h.un (t + 1) u hu, fun s t u u' k hs ht hk hk' => by have := h.ud (s + 1) (t + 1) u u' k hs ht hk hk'; omega⟩
/-- the row is appended to -/
theorem RO.app (hR : RdrC rep) (h : RO rep q W0 g H F vr R A w) (news : List Value) (m : Nat) (hm : news.length = m) (h1 : ∀ u ∈ news, u.oneCell' = true) (hn : R.length + m ≤ 1000) :
    ∀ ty, ∃ v' x, (Builtin.append_ #[53, 53] ty #[vr, .slice (some ⟨w.heap.size, 0, none⟩) m m]).run Tryd.prog (w.alloc (.cells news.toArray 22)) = .ok v' x ∧ (RO rep q W0 g H F v' (R ++ news) A x ∧ ∃ a c, v' = .slice a (R.length + m) c) := fun ty => by
  have hal : Below w.heap.size w (w.alloc (.cells news.toArray 22)) := (Below.refl _ _).alloc (Nat.le_refl _) _
  have h2 := h.below hR hal
  obtain ⟨i, i1, hz'⟩ := Option.map_eq_some_iff.1 parts_sl
  simp only [Prod.mk.injEq] at hz'
  obtain ⟨i2, i3, i4⟩ := hz'
  obtain ⟨v', x, hr, g2, g3, _, g5⟩ := run_append_own_at (P := Tryd.prog) _ q 53 ty 22 i (.slice none 0 0) 1 24 Tryd.underlying53 i1 i2 i3 i4 rfl (by decide) vr R.length R h2.row ⟨w.heap.size, 0, none⟩ m m news (by rw [hm, Nat.mul_one]) (fun j u hu => by
    rw [add_mid, Nat.zero_add, cell_of_row _ _ _ _ _ _ (heap_alloc_new w _), ← hu]; simp) h1 (by unfold maxLen; omega) (by omega) h2.qs
  have hne : ∀ k, (k ∈ F ∨ ∃ (t : Nat) (u : Value × List Int), A[t]? = some u ∧ u.1.ownBlock = some k) → some k ≠ vr.ownBlock := fun k hk e => by
    rcases hk with hk | ⟨t, u, hu, hk⟩
    · exact h.rn k e.symm hk
    · exact own_two (by decide) (h2.us t u hu) h2.row hk e.symm
  have hlt : ∀ k, (k ∈ F ∨ ∃ (t : Nat) (u : Value × List Int), A[t]? = some u ∧ u.1.ownBlock = some k) → k < (w.alloc (.cells news.toArray 22)).heap.size := fun k hk => (h2.lt hR (by rcases hk with hk | hk; exact .inl hk; exact .inr (.inr hk))).2
  refine ⟨v', x, hr, ⟨grown_below h2.lo h2.row (Nat.le_refl _) h2.qs g3, Nat.le_trans h2.qs g3.size, hR.keep h2.rp (fun k hk => g3.block k (hlt k (.inl hk)) (hne k (.inl hk))) g3.size, h.fq, by rw [List.length_append, hm]; exact g2, fun k hk => ?_, fun t u hu => own_keep (h2.us t u hu) (fun k hk => g3.block k (hlt k (.inr ⟨t, u, hu, hk⟩)) (hne k (.inr ⟨t, u, hu, hk⟩))), h.un, h.ud⟩, own_slice' g2⟩
  rcases g5 with e | e
  · exact h.rn k (e.symm.trans hk)
  · intro hm'
    have e' := e.symm.trans hk
    injection e' with e'
    have := hlt k (.inl hm')
    omega
/-- the first list is appended to -/
theorem RO.line (hR : RdrC rep) {vl : Value} {X C : List Int} (h : RO rep q W0 g H F vr R ((vl, X) :: A) w) {u : Value} (hu : RdB w u C) (hn : X.length + C.length ≤ 1000000) :
    ∀ ty, ∃ v' x, (Builtin.append_ #[22, 22] ty #[vl, u]).run Tryd.prog w = .ok v' x ∧ (RO rep q W0 g H F vr R ((v', X ++ C) :: A) x ∧ ∃ a c, v' = .slice a (X.length + C.length) c) := fun ty => by
  have hl : w.ownsRow q 5 1 vl X.length (X.map (Value.int .u8)) := h.us 0 _ rfl
  obtain ⟨v', x, hr, g2, g3, g5⟩ := own_appB hl hu hn h.qs ty
  have hne : ∀ k, (k ∈ F ∨ vr.ownBlock = some k ∨ ∃ (t : Nat) (u : Value × List Int), A[t]? = some u ∧ u.1.ownBlock = some k) → some k ≠ vl.ownBlock := fun k hk e => by
    rcases hk with hk | hk | ⟨t, u, hu, hk⟩
    · exact h.un 0 _ rfl k e.symm hk
    · exact own_two (by decide) hl h.row e.symm hk
    · have := h.ud 0 (t + 1) _ u k rfl hu e.symm hk; omega
  have hlt : ∀ k, (k ∈ F ∨ vr.ownBlock = some k ∨ ∃ (t : Nat) (u : Value × List Int), A[t]? = some u ∧ u.1.ownBlock = some k) → k < w.heap.size := fun k hk => (h.lt hR (by rcases hk with hk | hk | ⟨t, u, hu, hk⟩; exact .inl hk; exact .inr (.inl hk); exact .inr (.inr ⟨t + 1, u, hu, hk⟩))).2
  have h3 := h.tail
  have hx : RO rep q W0 g H F vr R A x := h3.keep hR (grown_below (Below.refl q w) hl (Nat.le_refl _) h.qs g3) (fun k hk => g3.block k (hlt k hk) (hne k hk))
  have hv : ∀ k, v'.ownBlock = some k → (k ∈ F ∨ ∃ (t : Nat) (u : Value × List Int), A[t]? = some u ∧ u.1.ownBlock = some k) → False := fun k hk hm => by
    rcases g5 with e | e
    · exact hne k (by rcases hm with h | h; exact .inl h; exact .inr (.inr h)) (e.symm.trans hk).symm
    · have e' := e.symm.trans hk
      injection e' with e'
      have := hlt k (by rcases hm with h | h; exact .inl h; exact .inr (.inr h))
      omega
  have hlen : (X ++ C).length = X.length + C.length := List.length_append
  refine ⟨v', x, hr, ⟨hx.lo, hx.qs, hx.rp, hx.fq, hx.row, hx.rn, fun t u hu => ?_, fun t u hu k hk => ?_, fun s t u u' k hs ht hk hk' => ?_⟩, own_slice' g2⟩
  · cases t with
    | zero =>
      injection hu with hu
      subst hu
      show World.ownsRow _ _ _ _ _ (X ++ C).length _
      rw [hlen, List.map_append]
      exact g2
    | succ t => exact hx.us t u hu
  · cases t with
    | zero =>
      injection hu with hu
      subst hu
      exact fun hm => hv k hk (.inl hm)
    | succ t => exact hx.un t u hu k hk
  · cases s with
    | zero =>
      cases t with
      | zero => rfl
      | succ t =>
        injection hs with hs
        subst hs
        exact (hv k hk (.inr ⟨t, u', ht, hk'⟩)).elim
    | succ s =>
      cases t with
      | zero =>
        injection ht with ht
        subst ht
        exact (hv k hk' (.inr ⟨s, u, hs, hk⟩)).elim
      | succ t => have := hx.ud s t u u' k hs ht hk hk'; omega
/-- behind a call on the Reader -/
theorem RO.chg (hR : RdrC rep) (h : RO rep q W0 g H F vr R A w) {H' : List Int} {F' : List Nat} (hc : Chg F w w') (hr : rep g H' F' w') (hF : ∀ k ∈ F', k ∈ F ∨ w.heap.size ≤ k) : RO rep q W0 g H' F' vr R A w' := by
  have hn : ∀ k, (vr.ownBlock = some k ∨ ∃ (t : Nat) (u : Value × List Int), A[t]? = some u ∧ u.1.ownBlock = some k) → k ∉ F ∧ k < w.heap.size := fun k hk => by
    rcases hk with hk | ⟨t, u, hu, hk⟩
    · exact ⟨h.rn k hk, (h.row.lt k hk).2⟩
    · exact ⟨h.un t u hu k hk, ((h.us t u hu).lt k hk).2⟩
  have hn' : ∀ k, (vr.ownBlock = some k ∨ ∃ (t : Nat) (u : Value × List Int), A[t]? = some u ∧ u.1.ownBlock = some k) → k ∉ F' := fun k hk hm => by
    rcases hF k hm with h1 | h1
    · exact (hn k hk).1 h1
    · have := (hn k hk).2; omega
  exact ⟨hc.below h.lo h.fq h.qs, Nat.le_trans h.qs hc.size, hr, fun k hk => by rcases hF k hk with h1 | h1; exact h.fq k h1; have := h.qs; omega, own_keep h.row (fun k hk => hc.blk k (hn k (.inl hk)).2 (hn k (.inl hk)).1), fun k hk => hn' k (.inl hk), fun t u hu => own_keep (h.us t u hu) (fun k hk => hc.blk k (hn k (.inr ⟨t, u, hu, hk⟩)).2 (hn k (.inr ⟨t, u, hu, hk⟩)).1), fun t u hu k hk => hn' k (.inr ⟨t, u, hu, hk⟩), h.ud⟩
theorem RO.feed (hR : RdrC rep) (h : RO rep q W0 g H F vr R A w) {v : Value} {C : List Int} (hv : RdB w v C) (hn : ∀ k, v.ownBlock = some k → k ∉ F) (hl : H.length + C.length ≤ 1000000) :
    Calls Tryd.prog 19 #[.pointer (some ⟨g, 0, none⟩), v] w fun e w' => e = .returned (.tuple #[]) ∧ ∃ F', RO rep q W0 g (H ++ C) F' vr R A w' := by
  refine (hR.feed h.rp hv hn hl).mono ?_
  rintro e w' ⟨he, hc, F', h5, h6⟩
  exact ⟨he, F', h.chg hR hc h5 h6⟩
theorem RO.next (hR : RdrC rep) (h : RO rep q W0 g H F vr R A w) (hB : Byb H) (hl : H.length ≤ 1000000) :
    Calls Tryd.prog 20 #[.pointer (some ⟨g, 0, none⟩)] w fun e w' => ∃ v b, e = .returned (.tuple #[v, .bool b]) ∧ ∃ F', (nxt H = none → b = false ∧ v = .slice none 0 0 ∧ RO rep q W0 g H F' vr R A w') ∧ (∀ m r, nxt H = some (m, r) → b = true ∧ (∃ a c, v = .slice a m.length c) ∧ RO rep q W0 g r F' vr R (A ++ [(v, m)]) w') := by
  refine (hR.next h.rp hB hl).mono ?_
  rintro e w' ⟨v, b, he, hc, F', hF, h1, h2⟩
  refine ⟨v, b, he, F', fun hx => ?_, fun m r hx => ?_⟩
  · obtain ⟨a1, a2, a3⟩ := h1 hx
    exact ⟨a1, a2, h.chg hR hc a3 hF⟩
  · obtain ⟨a1, a2, a3, a4⟩ := h2 m r hx
    refine ⟨a1, own_slice' a2, (h.chg hR hc a3 hF).add (own_dn a2 h.qs) a4 (fun t u k hu hk hk' => ?_)⟩
    have := (a2.lt k hk').1
    have := ((h.us t u hu).lt k hk).2
    omega
theorem RO.held (hR : RdrC rep) (h : RO rep q W0 g H F vr R A w) (hl : H.length ≤ 1000000) :
    Calls Tryd.prog 21 #[.pointer (some ⟨g, 0, none⟩)] w fun e w' => e = .returned (.int .i64 (H.length : Int)) ∧ RO rep q W0 g H F vr R A w' := by
  refine (hR.held h.rp hl).mono ?_
  rintro e w' ⟨he, hb⟩
  exact ⟨he, h.below hR hb⟩
/-- a byte of a list is written -/
theorem RO.set (hR : RdrC rep) (h : RO rep q W0 g H F vr R A w) {t : Nat} {a : Option Addr} {n c : Nat} {C : List Int} (ht : A[t]? = some (.slice a n c, C)) {k : Nat} (hk : k < C.length) (x : Int) :
    ∃ b, a = some ⟨b, 0, none⟩ ∧ w.cell? ⟨b, k, none⟩ = some (.int .u8 (C.getD k 0)) ∧ w.frozen? ⟨b, k, none⟩ = false ∧ RO rep q W0 g H F vr R (A.set t (.slice a n c, C.set k x)) (w.setCell ⟨b, k, none⟩ (.int .u8 x)) := by
  have ho := h.us t _ ht
  rcases ho.2 with ⟨_, e⟩ | ⟨b, cap, cur, e, h1, h2, h3, h4, h5, h6⟩
  · simp only at e; omega
  injection e with e1 e2 e3
  subst e1 e3
  have hs5 : cur.size = c := by rw [h5, Nat.mul_one]
  have hC := h.un t _ ht b rfl
  have hcell : cur.toList[k]? = some (.int .u8 (C.getD k 0)) := by
    have h7 : (cur.toList.take (C.length * 1))[k]? = (C.map (Value.int .u8))[k]? := by rw [h6]
    rw [List.getElem?_take_of_lt (by simpa using hk)] at h7
    rw [h7]
    simp [List.getD, hk]
  have hrow : (w.setCell ⟨b, k, none⟩ (.int .u8 x)).heap[b]? = some (.cells (cur.setIfInBounds k (.int .u8 x)) 5) := heap_setCell_same w b k _ _ _ h2
  have hoth : ∀ y, y ≠ b → (w.setCell ⟨b, k, none⟩ (.int .u8 x)).heap[y]? = w.heap[y]? := fun y hy => heap_setCell_other _ _ _ _ hy
  have hbl : Below q w (w.setCell ⟨b, k, none⟩ (.int .u8 x)) := (Below.refl _ _).setCell (p := ⟨b, k, none⟩) h1 _
  have hset : ∀ (s : Nat) u, (A.set t (.slice (some ⟨b, 0, none⟩) n c, C.set k x))[s]? = some u → (s = t ∧ u = (.slice (some ⟨b, 0, none⟩) n c, C.set k x)) ∨ (s ≠ t ∧ A[s]? = some u) := fun s u hu => by
    rw [List.getElem?_set] at hu
    split at hu
    · rename_i e
      split at hu
      · exact .inl ⟨e.symm, by simpa using hu.symm⟩
      · cases hu
    · rename_i e
      exact .inr ⟨fun e' => e e'.symm, hu⟩
  have hat : ∀ (s : Nat) u, (A.set t (.slice (some ⟨b, 0, none⟩) n c, C.set k x))[s]? = some u → ∃ u', A[s]? = some u' ∧ u'.1 = u.1 := fun s u hu => by
    rcases hset s u hu with ⟨rfl, rfl⟩ | ⟨_, h8⟩
    · exact ⟨_, ht, rfl⟩
    · exact ⟨u, h8, rfl⟩
  refine ⟨b, rfl, ?_, frozen_of_row _ _ _ _ _ h2, h.lo.trans hbl, Nat.le_trans h.qs hbl.size, hR.keep h.rp (fun y hy => hoth y (fun e => hC (e ▸ hy))) hbl.size, h.fq, own_keep h.row (fun y hy => hoth y (fun e => own_two (by decide) ho h.row (x := b) rfl (e ▸ hy))), h.rn, fun s u hu => ?_, fun s u hu y hy => ?_, fun s s' u u' y hs hs' hy hy' => ?_⟩
  · rw [cell_of_row _ _ _ _ _ _ h2, ← hcell]; simp
  · rcases hset s u hu with ⟨rfl, rfl⟩ | ⟨hne, h8⟩
    · refine ⟨by rw [List.length_map, Nat.mul_one], .inr ⟨b, c, _, ?_, h1, hrow, by simpa using h3, h4, by rw [Array.size_setIfInBounds]; exact h5, ?_⟩⟩
      · show Value.slice _ n c = .slice _ (C.set k x).length c
        rw [List.length_set, e2]
      · simp only [Array.toList_setIfInBounds, List.length_set, List.take_set, List.map_set]
        have h6' : cur.toList.take (C.length * 1) = C.map (Value.int .u8) := h6
        rw [h6']
    · exact own_keep (h.us s u h8) (fun y hy => hoth y (fun e => hne (h.ud s t u _ b h8 ht (e ▸ hy) rfl)))
  · obtain ⟨u', h8, h9⟩ := hat s u hu
    rw [← h9] at hy
    exact h.un s u' h8 y hy
  · obtain ⟨u1, h8, h9⟩ := hat s u hs
    obtain ⟨u2, h8', h9'⟩ := hat s' u' hs'
    rw [← h9] at hy
    rw [← h9'] at hy'
    exact h.ud s s' u1 u2 y h8 h8' hy hy'
end
end Go.Proofs.YtdakhiafagambaaDoor
