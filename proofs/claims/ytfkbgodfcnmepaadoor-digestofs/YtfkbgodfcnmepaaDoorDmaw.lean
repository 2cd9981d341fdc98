import Derived.Test.YtfkbgodfcnmepaaDoorDmav
import Derived.Test.YtfkbgodfcnmepaaDoorDmar
namespace Go.Proofs.YtfkbgodfcnmepaaDoor
set_option linter.unusedSimpArgs false
set_option linter.unusedVariables false
open Go.ChangeShapes Go.WideShapes Go.ChangeAt Go.RowKit Go.Pin Go.Str Go.Dig
def rbx (K : List (Nat × List Int)) : List (Nat × Obj) := K.map fun p => (p.1, Obj.cells (VI .u8 (room p.2)) 5)
def whl (p : Nat × List Int) : Value := .slice (some ⟨p.1, 0, none⟩) (p.2.length + 70) (p.2.length + 70)
def prt (p : Nat × List Int) : Value := .slice (some ⟨p.1, 0, none⟩) p.2.length (p.2.length + 70)
/-- two lists of slices beside the boxes -/
def TL (B : Nat) (w : World) (rv : Value) (l : List (Int × Int)) (bx : List (Nat × Obj)) (xs ys : List Value) (v u : Value) (W : World) : Prop :=
  ∃ l1 l2, Lst 22 1 v xs.length xs l1 ∧ Lst 22 1 u ys.length ys l2 ∧ Ev B w rv l (l1 ++ (l2 ++ bx)) W ∧ (∀ p ∈ l1, ∀ q ∈ l2 ++ bx, q.1 ≠ p.1) ∧ (∀ p ∈ l2, ∀ q ∈ bx, q.1 ≠ p.1)
section
variable {B : Nat} {w : World} {rv : Value} {l : List (Int × Int)} {bx : List (Nat × Obj)} {xs ys : List Value} {v u : Value} {W : World}
theorem TL.swap (h : TL B w rv l bx xs ys v u W) : TL B w rv l bx ys xs u v W := by
  obtain ⟨l1, l2, h1, h2, h3, h4, h5⟩ := h
  refine ⟨l2, l1, h2, h1, h3.sub (fun p hp => ?_), fun p hp q hq => ?_, fun p hp q hq => h4 p hp q (List.mem_append_right _ hq)⟩
  · simp only [List.mem_append] at hp ⊢
    rcases hp with hp | hp | hp
    · exact .inr (.inl hp)
    · exact .inl hp
    · exact .inr (.inr hp)
  · rcases List.mem_append.1 hq with hq | hq
    · exact fun e => h4 q hq p (List.mem_append_left _ hp) e.symm
    · exact h5 p hp q hq
theorem TL.ev (h : TL B w rv l bx xs ys v u W) : Ev B w rv l bx W := by
  obtain ⟨l1, l2, _, _, h3, _⟩ := h
  exact h3.sub (fun p hp => List.mem_append_right _ (List.mem_append_right _ hp))
theorem TL.below (h : TL B w rv l bx xs ys v u W) {W' : World} (hb : Below W.heap.size W W') : TL B w rv l bx xs ys v u W' := by
  obtain ⟨l1, l2, h1, h2, h3, h4⟩ := h
  exact ⟨l1, l2, h1, h2, h3.below hb, h4⟩
theorem TL.perm (h : TL B w rv l bx xs ys v u W) {b2 : List (Nat × Obj)} (hs : ∀ p ∈ b2, p ∈ bx) : TL B w rv l b2 xs ys v u W := by
  obtain ⟨l1, l2, h1, h2, h3, h4, h5⟩ := h
  refine ⟨l1, l2, h1, h2, h3.sub (fun p hp => ?_), fun p hp q hq => ?_, fun p hp q hq => h5 p hp q (hs q hq)⟩
  · simp only [List.mem_append] at hp ⊢
    rcases hp with hp | hp | hp
    · exact .inl hp
    · exact .inr (.inl hp)
    · exact .inr (.inr (hs p hp))
  · rcases List.mem_append.1 hq with hq | hq
    · exact h4 p hp q (List.mem_append_left _ hq)
    · exact h4 p hp q (List.mem_append_right _ (hs q hq))
/-- a box more -/
theorem TL.box (h : TL B w rv l bx xs ys v u W) {W' : World} (hb : Below W.heap.size W W') {g : Nat} (hg : W.heap.size ≤ g) {x : Obj} (hx : W'.heap[g]? = some x) : TL B w rv l ((g, x) :: bx) xs ys v u W' := by
  obtain ⟨l1, l2, h1, h2, h3, h4, h5⟩ := h
  have hlt : ∀ p ∈ l1 ++ (l2 ++ bx), p.1 < W.heap.size := fun p hp => heap_lt (h3.at' p hp)
  refine ⟨l1, l2, h1, h2, (h3.fresh hb hg hx).sub (fun p hp => ?_), fun p hp q hq => ?_, fun p hp q hq => ?_⟩
  · simp only [List.mem_append, List.mem_cons] at hp ⊢
    rcases hp with hp | hp | hp | hp
    · exact .inr (.inl hp)
    · exact .inr (.inr (.inl hp))
    · exact .inl hp
    · exact .inr (.inr (.inr hp))
  · have := hlt p (List.mem_append_left _ hp)
    simp only [List.mem_append, List.mem_cons] at hq
    rcases hq with hq | rfl | hq
    · exact h4 p hp q (List.mem_append_left _ hq)
    · show g ≠ p.1; omega
    · exact h4 p hp q (List.mem_append_right _ hq)
  · have := hlt p (List.mem_append_right _ (List.mem_append_left _ hp))
    rcases List.mem_cons.1 hq with rfl | hq
    · show g ≠ p.1; omega
    · exact h5 p hp q hq
theorem TL.app (h : TL B w rv l bx xs ys v u W) {a : Option Addr} {m c : Nat} (hn : xs.length ≤ 1000) (ty : TypeId) :
    ∃ v' w2, (Builtin.append_ #[51, 51] ty #[v, .slice (some ⟨W.heap.size, 0, none⟩) 1 1]).run Tryd.prog (W.alloc (.cells #[.slice a m c] 22)) = .ok v' w2 ∧ TL B w rv l bx (xs ++ [.slice a m c]) ys v' u w2 := by
  obtain ⟨l1, l2, h1, h2, h3, h4, h5⟩ := h
  have h3' := h3.below (w' := W.alloc (.cells #[.slice a m c] 22)) ((Below.refl _ _).alloc (Nat.le_refl _) _)
  obtain ⟨v', w2, hr, lb', hL, he, hd⟩ := h3'.appS h1 h4 ty (heap_alloc_new W _) hn
  exact ⟨v', w2, hr, lb', l2, by rw [List.length_append]; exact hL, h2, he, hd, h5⟩
end
theorem run_preS (w : World) (g n len cap : Nat) (x : Int) (hx : x = (n : Int)) (hn : n ≤ cap) (h0 : 0 < cap) : (Instr.slice 22 (.slice (some ⟨g, 0, none⟩) len cap) none (some (.int .i64 x)) none).run Tryd.prog w = .ok (.slice (some ⟨g, 0, none⟩) n cap) w := by
  subst hx
  have e1 : ¬ cap = 0 := by omega
  have e2 : (⟨g, 0, none⟩ : Addr).add 0 = ⟨g, 0, none⟩ := add_mid g 0 0
  have h2 : ((n : Nat) : Int) ≤ (cap : Int) := by omega
  simp [Instr.slice, run_underlying Tryd.underlying22, Instr.sliceBounds, run_sliceBound, size_u8, sliced, e1, e2, h2, hn]
/-- what twins makes of the pieces -/
def TW (B : Nat) (w : World) (rv : Value) (l : List (Int × Int)) (bx : List (Nat × Obj)) (Ds : List (List Int)) (v u : Value) (W : World) : Prop :=
  ∃ K : List (Nat × List Int), K.map Prod.snd = Ds ∧ (K.map Prod.fst).Nodup ∧ (∀ p ∈ K, ∀ q ∈ bx, q.1 ≠ p.1) ∧ TL B w rv l (rbx K ++ bx) (K.map whl) (K.map prt) v u W
/-- a new Recorder beside the boxes -/
theorem Ev.withRec {B : Nat} {w : World} {l : List (Int × Int)} {bx : List (Nat × Obj)} {wr : World} (h : Ev B w (.pointer none) l bx wr) : Ev B w (.pointer (some ⟨wr.heap.size, 0, none⟩)) [] bx (wr.alloc (.cells #[.slice none 0 0, .int .i64 0] 76)) := by
  have hb : Below wr.heap.size wr (wr.alloc (.cells #[.slice none 0 0, .int .i64 0] 76)) := (Below.refl _ _).alloc (Nat.le_refl _) _
  have h' := h.below hb
  refine ⟨h'.old, h'.le, h'.ge, h'.at', .inr ⟨_, _, rfl, (rec_new wr).mono h.le, fun p hp hk => ?_⟩⟩
  have := heap_lt (h.at' p hp)
  rcases hk with hk | hk
  · omega
  · cases hk
theorem TL.withRec {B : Nat} {w : World} {l : List (Int × Int)} {bx : List (Nat × Obj)} {xs ys : List Value} {v u : Value} {W : World} (h : TL B w (.pointer none) l bx xs ys v u W) : TL B w (.pointer (some ⟨W.heap.size, 0, none⟩)) [] bx xs ys v u (W.alloc (.cells #[.slice none 0 0, .int .i64 0] 76)) := by
  obtain ⟨l1, l2, h1, h2, h3, h4⟩ := h
  exact ⟨l1, l2, h1, h2, h3.withRec, h4⟩
/-- a cell of a list of slices -/
theorem Lst.at {xs : List Value} {v : Value} {lb : List (Nat × Obj)} (h : Lst 22 1 v xs.length xs lb) {i : Nat} (hi : i < xs.length) : ∃ g c, v = .slice (some ⟨g, 0, none⟩) xs.length c ∧ ∀ Y : World, (∀ p ∈ lb, Y.heap[p.1]? = some p.2) → Y.cell? ⟨g, 0 + i, none⟩ = xs[i]? := by
  rcases h.2 with ⟨_, e, _⟩ | ⟨g, cap, cur, e1, e2, e3, e4, e5, e6⟩
  · omega
  · refine ⟨g, cap, e1, fun Y hY => ?_⟩
    have hrow := hY (g, .cells cur 22 (0, 0)) (by rw [e2]; exact mem0)
    rw [cell_of_row Y _ _ _ _ _ hrow, Nat.zero_add]
    have : xs[i]? = cur[i]? := by
      rw [← e6, List.getElem?_take_of_lt (by omega)]
      simp
    rw [this]
/-- the pieces within their roomy lists -/
theorem psrc_prt {B : Nat} {w : World} {K : List (Nat × List Int)} {u : Value} {l2 : List (Nat × Obj)} (h : Lst 22 1 u (K.map prt).length (K.map prt) l2) (hm : K.length ≤ maxLen) {bx : List (Nat × Obj)} (h2 : ∀ p ∈ l2, p ∈ bx) (hr : ∀ p ∈ rbx K, p ∈ bx) : ∃ au cu, u = .slice au K.length cu ∧ PSrc B w bx au K.length (K.map Prod.snd) := by
  have hl : (K.map prt).length = K.length := List.length_map ..
  obtain ⟨au, cu, hu⟩ := h.slice'
  rw [hl] at hu
  refine ⟨au, cu, hu, ⟨List.length_map .., hm⟩, fun j hj => ?_⟩
  obtain ⟨g, c, e, hat⟩ := h.at (i := j) (by rw [hl]; exact hj)
  rw [hu] at e
  injection e with e1 _ _
  have hp : (K.map prt)[j]? = some (prt K[j]) := by rw [List.getElem?_map, List.getElem?_eq_getElem hj]; rfl
  have hD : (K.map Prod.snd).getD j [] = (K[j]).2 := by rw [List.getD_eq_getElem?_getD, List.getElem?_map, List.getElem?_eq_getElem hj]; rfl
  refine ⟨g, 0, prt K[j], e1, fun Y _ hq => by rw [hat Y (fun p hp => hq p (h2 p hp)), hp], ?_⟩
  rw [hD]
  have hmem : ((K[j]).1, Obj.cells (VI .u8 (room (K[j]).2)) 5) ∈ bx := hr _ (List.mem_map.2 ⟨K[j], List.getElem_mem hj, rfl⟩)
  have := src_box (B := B) (w := w) hmem 0 (K[j]).2.length ((K[j]).2.length + 70) (by rw [room_len]; omega) (by omega)
  rw [List.drop_zero, room_take] at this
  exact this
/-- Of over the parts -/
theorem TL.of {B : Nat} {w : World} {ra : Option Addr} {l : List (Int × Int)} {bx : List (Nat × Obj)} {K : List (Nat × List Int)} {xs : List Value} {v u : Value} {W : World} (h : TL B w (.pointer ra) l bx xs (K.map prt) v u W) (hr : ∀ p ∈ rbx K, p ∈ bx) (hD : BytL (K.map Prod.snd)) (hn : K.length ≤ 1000) (hB : Beg w) (h2q : 2 ≤ B) (hlen : (K.map Prod.snd).flatten.length ≤ 200000) (hl : Value.pointer ra ≠ .pointer none → l.length + 25 * K.length + (K.map Prod.snd).flatten.length ≤ 600000) :
    Calls Tryd.prog 26 #[.pointer ra, u] W fun e w' => e = .returned (.agg (VI .u8 (dig 32 [] (K.map Prod.snd).flatten))) ∧ TL B w (.pointer ra) (l ++ olg ((K.map Prod.snd).map List.length)) bx xs (K.map prt) v u w' := by
  obtain ⟨l1, l2, h1, h2, h3, h4, h5⟩ := h
  obtain ⟨au, cu, hu, hP⟩ := psrc_prt (B := B) (w := w) h2 (by unfold maxLen; omega) (bx := l1 ++ (l2 ++ bx)) (fun p hp => List.mem_append_right _ (List.mem_append_left _ hp)) (fun p hp => List.mem_append_right _ (List.mem_append_right _ (hr p hp)))
  subst hu
  refine (dof_any h3 hP hD hl (by omega) hB h2q).mono ?_
  rintro e w' ⟨rfl, h6⟩
  exact ⟨rfl, l1, l2, h1, h2, h6, h4, h5⟩
/-- the lengths are read -/
theorem LE.rdn {v : Value} {n : Nat} {Ds : List (List Int)} (hn : Ds.length = n) {B : Nat} {w : World} {rv : Value} {l : List (Int × Int)} {bx : List (Nat × Obj)} {W : World} (h : LE 3 1 v n (Ds.map fun D => Value.int .i64 (D.length : Int)) B w rv l bx W) : ∃ a c, v = .slice a n c ∧ RdN W a (Ds.map List.length) := by
  obtain ⟨lb, h1, h2, _⟩ := h
  rcases h1.2 with ⟨e1, e2, _⟩ | ⟨g, cap, cur, e1, e2, e3, e4, e5, e6⟩
  · exact ⟨none, 0, by rw [e1, e2], fun i hi => by rw [List.length_map] at hi; omega⟩
  · refine ⟨_, cap, e1, fun i hi => ⟨g, 0, rfl, ?_⟩⟩
    rw [List.length_map] at hi
    have hrow := h2.at' (g, .cells cur 3 (0, 0)) (List.mem_append_left _ (by rw [e2]; exact mem0))
    rw [cell_of_row W _ _ _ _ _ hrow, Nat.zero_add]
    have : (Ds.map fun D => Value.int .i64 (D.length : Int))[i]? = cur[i]? := by
      rw [← e6, List.getElem?_take_of_lt (by omega)]
      simp
    rw [← this, List.getElem?_map, List.getElem?_eq_getElem hi, List.getD_eq_getElem?_getD, List.getElem?_map, List.getElem?_eq_getElem hi]
    rfl
/-- one box is written, others stay -/
theorem Ev.upd {B : Nat} {w : World} {rv : Value} {l : List (Int × Int)} {bx by' : List (Nat × Obj)} {wr w' : World} {g : Nat} {o y : Obj} (h : Ev B w rv l bx wr) (hg : (g, o) ∈ bx) (hb : Grow (fun k => k = g) wr w') (hy : w'.heap[g]? = some y) (hbx : ∀ p ∈ by', p = (g, y) ∨ (p ∈ bx ∧ p.1 ≠ g)) : Ev B w rv l by' w' := by
  have hgB : B ≤ g := h.ge (g, o) hg
  refine ⟨h.old.trans (hb.below (fun k hk => by omega) h.le), Nat.le_trans h.le hb.size, fun p hp => ?_, fun p hp => ?_, ?_⟩
  · rcases hbx p hp with rfl | ⟨hp, _⟩
    · exact hgB
    · exact h.ge p hp
  · rcases hbx p hp with rfl | ⟨hp, hn⟩
    · exact hy
    · exact (hb.block _ (heap_lt (h.at' p hp)) hn).trans (h.at' p hp)
  · rcases h.rc with e | ⟨R, vs, e, h2, h3⟩
    · exact .inl e
    · refine .inr ⟨R, vs, e, h2.grow hb (fun k hk hn => by subst hn; exact h3 (k, o) hg hk), fun p hp => ?_⟩
      rcases hbx p hp with rfl | ⟨hp, _⟩
      · exact h3 (g, o) hg
      · exact h3 p hp
theorem Ev.forget {B : Nat} {w : World} {rv : Value} {l : List (Int × Int)} {bx : List (Nat × Obj)} {wr : World} (h : Ev B w rv l bx wr) : Ev B w (.pointer none) l bx wr := ⟨h.old, h.le, h.ge, h.at', .inl rfl⟩
theorem TL.forget {B : Nat} {w : World} {rv : Value} {l : List (Int × Int)} {bx : List (Nat × Obj)} {xs ys : List Value} {v u : Value} {W : World} (h : TL B w rv l bx xs ys v u W) : TL B w (.pointer none) l bx xs ys v u W := by
  obtain ⟨l1, l2, h1, h2, h3, h4⟩ := h
  exact ⟨l1, l2, h1, h2, h3.forget, h4⟩
theorem room_set (D : List Int) (x : Int) (hD : 0 < D.length) : (room D).set 0 x = room (D.set 0 x) := by
  apply List.ext_getElem (by simp [room_len])
  intro i h1 h2
  rw [List.length_set, room_len] at h1
  rw [List.getElem_set]
  simp only [room, List.getElem_map, List.getElem_range, rmk, List.length_set]
  by_cases e : 0 = i
  · subst e
    rw [if_pos rfl, if_pos hD, List.getD_eq_getElem?_getD, List.getElem?_eq_getElem (by rw [List.length_set]; exact hD), List.getElem_set]
    rfl
  · rw [if_neg e]
    by_cases h : i < D.length
    · rw [if_pos h, if_pos h, List.getD_eq_getElem?_getD, List.getElem?_eq_getElem h, List.getD_eq_getElem?_getD, List.getElem?_eq_getElem (by rw [List.length_set]; exact h), List.getElem_set, if_neg e]
    · rw [if_neg h, if_neg h]
/-- a piece's first byte is written -/
def kset (K : List (Nat × List Int)) (i : Nat) (x : Int) : List (Nat × List Int) := K.set i ((K.getD i (0, [])).1, (K.getD i (0, [])).2.set 0 x)
theorem kset_len (K : List (Nat × List Int)) (i : Nat) (x : Int) : (kset K i x).length = K.length := List.length_set ..
theorem kset_prt (K : List (Nat × List Int)) (i : Nat) (x : Int) : (kset K i x).map prt = K.map prt := by
  unfold kset
  apply List.ext_getElem (by simp)
  intro j h1 h2
  rw [List.length_map] at h2
  rw [List.getElem_map, List.getElem_map, List.getElem_set]
  by_cases e : i = j
  · subst e
    rw [if_pos rfl, List.getD_eq_getElem?_getD, List.getElem?_eq_getElem h2]
    simp [prt]
  · rw [if_neg e]
theorem kset_whl (K : List (Nat × List Int)) (i : Nat) (x : Int) : (kset K i x).map whl = K.map whl := by
  unfold kset
  apply List.ext_getElem (by simp)
  intro j h1 h2
  rw [List.length_map] at h2
  rw [List.getElem_map, List.getElem_map, List.getElem_set]
  by_cases e : i = j
  · subst e
    rw [if_pos rfl, List.getD_eq_getElem?_getD, List.getElem?_eq_getElem h2]
    simp [whl]
  · rw [if_neg e]
theorem kset_fst (K : List (Nat × List Int)) (i : Nat) (x : Int) : (kset K i x).map Prod.fst = K.map Prod.fst := by
  unfold kset
  apply List.ext_getElem (by simp)
  intro j h1 h2
  rw [List.length_map] at h2
  rw [List.getElem_map, List.getElem_map, List.getElem_set]
  by_cases e : i = j
  · subst e
    rw [if_pos rfl, List.getD_eq_getElem?_getD, List.getElem?_eq_getElem h2]
    simp
  · rw [if_neg e]
theorem kset_lens (K : List (Nat × List Int)) (i : Nat) (x : Int) : ((kset K i x).map Prod.snd).map List.length = (K.map Prod.snd).map List.length := by
  unfold kset
  apply List.ext_getElem (by simp)
  intro j h1 h2
  rw [List.length_map, List.length_map] at h2
  rw [List.getElem_map, List.getElem_map, List.getElem_map, List.getElem_map, List.getElem_set]
  by_cases e : i = j
  · subst e
    rw [if_pos rfl, List.getD_eq_getElem?_getD, List.getElem?_eq_getElem h2]
    simp
  · rw [if_neg e]
theorem kset_bytL {K : List (Nat × List Int)} (h : BytL (K.map Prod.snd)) (i : Nat) {x : Int} (hx : 0 ≤ x ∧ x < 256) : BytL ((kset K i x).map Prod.snd) := by
  intro D hD
  obtain ⟨p, hp, rfl⟩ := List.mem_map.1 hD
  unfold kset at hp
  rcases List.mem_or_eq_of_mem_set hp with hp | rfl
  · exact h _ (List.mem_map.2 ⟨p, hp, rfl⟩)
  · intro y hy
    rcases List.mem_or_eq_of_mem_set hy with hy | rfl
    · rw [List.getD_eq_getElem?_getD] at hy
      cases e : K[i]? with
      | none => rw [e] at hy; simp at hy
      | some p =>
        rw [e] at hy
        exact h _ (List.mem_map.2 ⟨p, List.mem_of_getElem? e, rfl⟩) y hy
    · exact hx
theorem TL.upd {B : Nat} {w : World} {rv : Value} {l : List (Int × Int)} {A C : List (Nat × Obj)} {K : List (Nat × List Int)} {xs ys : List Value} {v u : Value} {W W' : World} (h : TL B w rv l (A ++ (rbx K ++ C)) xs ys v u W) {i : Nat} {p : Nat × List Int} (hi : K[i]? = some p) (hN : (K.map Prod.fst).Nodup) (hA : ∀ r ∈ A ++ C, r.1 ≠ p.1) (x : Int) (hb : Grow (fun k => k = p.1) W W') (hy : W'.heap[p.1]? = some (.cells (VI .u8 (room (p.2.set 0 x))) 5)) : TL B w rv l (A ++ (rbx (kset K i x) ++ C)) xs ys v u W' := by
  obtain ⟨l1, l2, h1, h2, h3, h4, h5⟩ := h
  have hiK : i < K.length := (List.getElem?_eq_some_iff.1 hi).1
  have hpK : p ∈ K := List.mem_of_getElem? hi
  have hgd : K.getD i (0, []) = p := by rw [List.getD_eq_getElem?_getD, hi]; rfl
  have hg : (p.1, Obj.cells (VI .u8 (room p.2)) 5) ∈ A ++ (rbx K ++ C) := List.mem_append_right _ (List.mem_append_left _ (List.mem_map.2 ⟨p, hpK, rfl⟩))
  have hks : ∀ r ∈ rbx (kset K i x), r = (p.1, Obj.cells (VI .u8 (room (p.2.set 0 x))) 5) ∨ (r ∈ rbx K ∧ r.1 ≠ p.1) := by
    intro r hr
    obtain ⟨s, hs, rfl⟩ := List.mem_map.1 hr
    unfold kset at hs
    rw [hgd] at hs
    obtain ⟨j, hj, rfl⟩ := List.mem_iff_getElem.1 hs
    rw [List.getElem_set]
    rw [List.length_set] at hj
    by_cases e : i = j
    · rw [if_pos e]; exact .inl rfl
    · rw [if_neg e]
      refine .inr ⟨List.mem_map.2 ⟨_, List.getElem_mem hj, rfl⟩, fun e2 => e ?_⟩
      have e3 : (K.map Prod.fst)[i]? = (K.map Prod.fst)[j]? := by
        rw [List.getElem?_map, List.getElem?_map, hi, List.getElem?_eq_getElem hj]
        exact congrArg some e2.symm
      exact (List.getElem?_inj (by rw [List.length_map]; exact hiK) hN).1 e3
  have hmem : ∀ r ∈ l2 ++ (A ++ (rbx (kset K i x) ++ C)), r = (p.1, Obj.cells (VI .u8 (room (p.2.set 0 x))) 5) ∨ (r ∈ l2 ++ (A ++ (rbx K ++ C)) ∧ r.1 ≠ p.1) := by
    intro r hr
    simp only [List.mem_append] at hr
    rcases hr with hr | hr | hr | hr
    · exact .inr ⟨List.mem_append_left _ hr, fun e => h5 r hr _ hg e.symm⟩
    · exact .inr ⟨List.mem_append_right _ (List.mem_append_left _ hr), hA r (List.mem_append_left _ hr)⟩
    · rcases hks r hr with e | ⟨e, e2⟩
      · exact .inl e
      · exact .inr ⟨List.mem_append_right _ (List.mem_append_right _ (List.mem_append_left _ e)), e2⟩
    · exact .inr ⟨List.mem_append_right _ (List.mem_append_right _ (List.mem_append_right _ hr)), hA r (List.mem_append_right _ hr)⟩
  refine ⟨l1, l2, h1, h2, h3.upd (List.mem_append_right _ (List.mem_append_right _ hg)) hb hy (fun r hr => ?_), fun a ha r hr => ?_, fun a ha r hr => ?_⟩
  · rcases List.mem_append.1 hr with hr | hr
    · exact .inr ⟨List.mem_append_left _ hr, fun e => h4 r hr _ (List.mem_append_right _ hg) e.symm⟩
    · rcases hmem r hr with e | ⟨e, e2⟩
      · exact .inl e
      · exact .inr ⟨List.mem_append_right _ e, e2⟩
  · rcases hmem r hr with rfl | ⟨e, _⟩
    · exact (h4 a ha _ (List.mem_append_right _ hg) : p.1 ≠ a.1)
    · exact h4 a ha r e
  · rcases hmem r (List.mem_append_right _ hr) with rfl | ⟨e, _⟩
    · exact (h5 a ha _ hg : p.1 ≠ a.1)
    · simp only [List.mem_append] at hr
      rcases hr with hr | hr | hr
      · exact h5 a ha r (List.mem_append_left _ hr)
      · rcases hks r hr with rfl | ⟨e, _⟩
        · exact (h5 a ha _ hg : p.1 ≠ a.1)
        · exact h5 a ha r (List.mem_append_right _ (List.mem_append_left _ e))
      · exact h5 a ha r (List.mem_append_right _ (List.mem_append_right _ hr))
end Go.Proofs.YtfkbgodfcnmepaaDoor
namespace Go.Proofs.YtfkbgodfcnmepaaDoor
set_option linter.unusedSimpArgs false
set_option linter.unusedVariables false
open Go.ChangeShapes Go.WideShapes Go.ChangeAt Go.RowKit Go.Pin Go.Str Go.Dig
/-- more than a statement plays -/
def lng (Ds : List (List Int)) : Bool := decide (400 < Ds.length ∨ 131072 < Ds.flatten.length)
theorem sum_snoc (Ds : List (List Int)) (i : Nat) (h : i < Ds.length) : (Ds.take (i + 1)).flatten.length = (Ds.take i).flatten.length + (Ds.getD i []).length := by
  rw [take_snocL Ds i h, List.flatten_append, List.length_append]
  simp
theorem sum_le (Ds : List (List Int)) (i : Nat) : (Ds.take i).flatten.length ≤ Ds.flatten.length := by have := take_sum Ds i; omega
theorem wrapAL {a b : Nat} (h : a ≤ 131072) (hb : b ≤ 140737488355328) : wrap64 ((a : Int) + (b : Int)) = ((a + b : Nat) : Int) ∧ IntKind.i64.wrap ((a : Int) + (b : Int)) = ((a + b : Nat) : Int) := by
  rw [IntWalk.wrap64_in _ ⟨by omega, by omega⟩, IntWalk.i64_in _ ⟨by omega, by omega⟩]
  omega
set_option maxRecDepth 100000 in
set_option maxHeartbeats 4000000 in
theorem long_any {B : Nat} {w : World} {rv : Value} {l : List (Int × Int)} {bx : List (Nat × Obj)} {W : World} (h : Ev B w rv l bx W) {a : Option Addr} {n cap : Nat} {Ds : List (List Int)} (hP : PSrc B w bx a n Ds) (hm : ∀ D ∈ Ds, D.length ≤ 140737488355328) :
    Calls Tryd.prog 25 #[.slice a n cap] W fun e w' => e = .returned (.bool (lng Ds)) ∧ w' = W := by
  have HP : Hid (PSrc B w bx a n Ds ∧ Ev B w rv l bx W ∧ ∀ D ∈ Ds, D.length ≤ 140737488355328) := ⟨hP, h, hm⟩
  have HN : Hid (Ds.length = n) := hP.1.1
  clear h hP hm
  by_cases hn : n ≤ 400
  · have b0 : ¬ (400 : Int) < (n : Int) := by omega
    have b0' : ¬ 400 < n := by omega
    have HN4 : Hid (n ≤ 400) := hn
    clear hn
    go_enter Tryd.func25, Tryd.ntmps25
    go_wp2
    go_loop [3, 4] (fun s i => ∃ k : Nat, k ≤ n ∧ i = .int .i64 (k : Int) ∧ s = .int .i64 (((Ds.take k).flatten.length : Nat) : Int) ∧ (Ds.take k).flatten.length ≤ 131072) (fun _ i => n - (intOf i).toNat)
    case atStart => exact ⟨0, Nat.zero_le _, rfl, rfl, by simp⟩
    case round =>
      obtain ⟨k, hk, rfl, rfl, hs⟩ := hrel
      by_cases hlt : k < n
      · have b1 : (k : Int) < (n : Int) := by omega
        obtain ⟨b, o, u, rfl, hcu, hsu⟩ := HP.out.1.2 k hlt
        have c1 := hcu W HP.out.2.1.old (fun q hq => HP.out.2.1.at' q hq)
        obtain ⟨a', cap', rfl, _, _⟩ := id hsu
        have hsn := sum_snoc Ds k (by rw [HN.out]; exact hlt)
        have hml : (Ds.getD k []).length ≤ 140737488355328 := by
          rw [List.getD_eq_getElem?_getD, List.getElem?_eq_getElem (by rw [HN.out]; exact hlt)]
          exact HP.out.2.2 _ (List.getElem_mem _)
        obtain ⟨hw, hw'⟩ := wrapAL hs hml
        rw [← hsn] at hw hw'
        obtain ⟨m, hmm⟩ : ∃ m, (Ds.getD k []).length = m := ⟨_, rfl⟩
        rw [hmm] at hw hw' c1
        obtain ⟨s0, hs0⟩ : ∃ s0, (Ds.take k).flatten.length = s0 := ⟨_, rfl⟩
        obtain ⟨s1, hs1⟩ : ∃ s1, (Ds.take (k + 1)).flatten.length = s1 := ⟨_, rfl⟩
        rw [hs0, hs1] at hw hw'
        rw [hs0]
        have HX : Hid (k < n ∧ n ≤ 400 ∧ (Ds.take (k + 1)).flatten.length = s1) := ⟨hlt, HN4.out, hs1⟩
        have HW1 : Hid (wrap64 ((k : Int) + 1) = (k : Int) + 1) := wrapS hlt (by have := HN4.out; unfold maxLen; omega)
        clear hcu hsu hsn hml hmm hs0 hs1 hs hk
        by_cases hgt : 131072 < s1
        · have b2 : (131072 : Int) < (s1 : Int) := by omega
          have HR : Hid (lng Ds = true) := by
            have : lng Ds = true := by
              unfold lng
              have := sum_le Ds (k + 1)
              rw [HX.out.2.2] at this
              exact decide_eq_true (.inr (by omega))
            exact this
          go_wp2
          go_ret
          exact ⟨by rw [HR.out]; rfl, rfl⟩
        · have b2 : ¬ (131072 : Int) < (s1 : Int) := by omega
          have HS1 : Hid (s1 ≤ 131072) := by show s1 ≤ 131072; omega
          go_wp2
          go_round
          case rel => exact ⟨k + 1, HX.out.1, by first | go_num | (rw [HW1.out]; exact congrArg (Value.int .i64) (by omega)), by rw [HX.out.2.2], by rw [HX.out.2.2]; exact HS1.out⟩
          case measure => first | exact measS HX.out.1 (by have := HX.out.2.1; unfold maxLen; omega) | (have := HX.out.1; simp only [intOf]; omega)
      · have b1 : ¬ (k : Int) < (n : Int) := by omega
        have HR : Hid (lng Ds = false) := by
          have : lng Ds = false := by
            unfold lng
            have e : Ds.take k = Ds := List.take_of_length_le (by rw [HN.out]; omega)
            rw [e] at hs
            have := HN.out
            have := HN4.out
            exact decide_eq_false (by omega)
          exact this
        clear hs hk
        go_wp2
        go_ret
        exact ⟨by rw [HR.out]; rfl, rfl⟩
  · have b0 : (400 : Int) < (n : Int) := by omega
    have b0' : 400 < n := by omega
    have HR : Hid (lng Ds = true) := by
      have : lng Ds = true := by
        unfold lng
        rw [HN.out]
        simp
        left
        exact b0'
      exact this
    go_enter Tryd.func25, Tryd.ntmps25
    go_wp2
    go_ret
    exact ⟨by rw [HR.out]; rfl, rfl⟩
theorem lng_false {Ds : List (List Int)} (h : lng Ds = false) : Ds.length ≤ 400 ∧ Ds.flatten.length ≤ 131072 := by
  unfold lng at h
  simp only [decide_eq_false_iff_not, not_or] at h
  omega
end Go.Proofs.YtfkbgodfcnmepaaDoor
