import Derived.Test.YtpfidohkohldaaaGreatDoorMqbb
namespace Go.Proofs.YtpfidohkohldaaaGreatDoor
set_option linter.unusedSimpArgs false
set_option linter.unusedVariables false
set_option maxRecDepth 100000
open Go.ChangeShapes Go.WideShapes Go.ChangeAt Go.RowKit Go.Pin Go.Pat Go.Deep
theorem OA.inPlace {e : TypeId} {k : Nat} {w w' : World} {g o cap n m : Nat} {xs : List Value} {cur cur' : Array Value} (h : OA e k (.slice (some ⟨g, o, none⟩) m cap) m xs w) (hm : m ≤ n) (h2 : w.heap[g]? = some (.cells cur e (0, 0))) (h3 : w'.heap[g]? = some (.cells cur' e (0, 0))) (hs : cur'.size = cur.size) (hj : ∀ j, j < o + n * k → cur'[j]? = cur[j]?) : OA e k (.slice (some ⟨g, o, none⟩) m cap) m xs w' := by
  refine ⟨h.1, ?_⟩
  rcases h.2 with ⟨h1, _⟩ | ⟨g', o', cap', cur0, h1, h4, h5, h6, h7⟩
  · cases h1
  · injection h1 with e1 e2 e3
    injection e1 with e1
    injection e1 with e1 e4
    subst e1 e4 e3
    rw [h4] at h2
    injection h2 with h2
    injection h2 with h2
    subst h2
    refine .inr ⟨g, o, cap, cur', rfl, h3, h5, by rw [hs]; exact h6, ?_⟩
    rw [← h7]
    refine List.ext_getElem? fun j => ?_
    rw [List.getElem?_take, List.getElem?_take]
    split
    · rename_i hjm
      rw [List.getElem?_drop, List.getElem?_drop]
      have := Nat.mul_le_mul_right k hm
      have h8 := hj (o + j) (by omega)
      simpa using h8
    · rfl
/-- j times the same cells -/
def rp (j : Nat) (c : List Value) : List Value := (List.replicate j c).flatten
theorem rp_succ (j : Nat) (c : List Value) : rp (j + 1) c = rp j c ++ c := by unfold rp; rw [List.replicate_succ', List.flatten_append]; simp
/-- a list that has been appended to j times since the world wi -/
structure LR (q : Nat) (e : TypeId) (k X : Nat) (wi : World) (u : Value) (n : Nat) (cs : List Value) (l : Value) (j : Nat) (nw : List Value) (y : World) : Prop where
  bl : Below q wi y
  st : ∀ g, g < wi.heap.size → g ≠ X → u.ownBlock ≠ some g → y.heap[g]? = wi.heap[g]?
  hu : OA e k u n cs y
  hl : OA e k l (n + j) (cs ++ nw) y
  al : (∃ a c, u = .slice a n c ∧ l = .slice a (n + j) c) ∨ ∃ g, l.ownBlock = some g ∧ wi.heap.size ≤ g
  ub : ∀ g, u.ownBlock = some g → q ≤ g ∧ g < wi.heap.size
  qs : q ≤ wi.heap.size
theorem LR.start {q : Nat} {e : TypeId} {k X : Nat} {wi : World} {u : Value} {n : Nat} {cs : List Value} (h : OA e k u n cs wi) (hq : q ≤ wi.heap.size) (hb : ∀ g, u.ownBlock = some g → q ≤ g) : LR q e k X wi u n cs u 0 [] wi := by
  obtain ⟨a, c, rfl⟩ := h.sl
  exact ⟨Below.refl _ _, fun _ _ _ _ => rfl, h, by simpa using h, .inl ⟨a, c, rfl, rfl⟩, fun g hg => ⟨hb g hg, h.lt hg⟩, hq⟩
theorem LR.below {q : Nat} {e : TypeId} {k X : Nat} {wi : World} {u : Value} {n : Nat} {cs : List Value} {l : Value} {j : Nat} {nw : List Value} {y y' : World} (h : LR q e k X wi u n cs l j nw y) (hb : Below y.heap.size y y') : LR q e k X wi u n cs l j nw y' :=
  ⟨h.bl.trans (hb.mono (Nat.le_trans h.qs h.bl.size)), fun g hg hx hu => (hb.block g (Nat.lt_of_lt_of_le hg h.bl.size)).trans (h.st g hg hx hu), h.hu.keep (fun g hg => hb.block g (h.hu.lt hg)), h.hl.keep (fun g hg => hb.block g (h.hl.lt hg)), h.al, h.ub, h.qs⟩
theorem LR.app {q : Nat} {e : TypeId} {k X : Nat} {wi : World} {u : Value} {n : Nat} {cs : List Value} {l : Value} {j : Nat} {nw : List Value} {y y' : World} {l' : Value} {c : List Value} (h : LR q e k X wi u n cs l j nw y) (ho : OA e k l' (n + j + 1) (cs ++ nw ++ c) y') (ha : AppR e y l (n + j) k l' y') : LR q e k X wi u n cs l' (j + 1) (nw ++ c) y' := by
  rw [List.append_assoc] at ho
  rcases ha with ⟨g, o, cap, cur, cur', rfl, rfl, h1, h2, h3, h4, h5⟩ | ⟨hb, hbl⟩
  · have hgb : ∀ g', g' < y.heap.size → g' ≠ g → y'.heap[g']? = y.heap[g']? := fun g' hg hne => h5.block g' hg (fun e => hne (by cases e; rfl))
    have hys : wi.heap.size ≤ y.heap.size := h.bl.size
    rcases h.al with ⟨a, c', hu, hl⟩ | ⟨g', hg', hgw⟩
    · injection hl with e1 e2 e3
      subst e1 e3 hu
      have hub := h.ub g rfl
      refine ⟨?_, fun g' hg' hx hu' => (hgb g' (by omega) (fun e => hu' (by rw [e]; rfl))).trans (h.st g' hg' hx hu'), ?_, ho, .inl ⟨_, _, rfl, rfl⟩, h.ub, h.qs⟩
      · exact h.bl.grown h5 (Nat.le_trans h.qs hys) (fun k hk => by injection hk with hk; omega)
      · exact h.hu.inPlace (n := n + j) (by omega) h1 h2 h3 h4
    · have hgg : g = g' := by injection hg'
      have hgw : wi.heap.size ≤ g := by omega
      have hune : ∀ g', u.ownBlock = some g' → g' ≠ g := fun g' hg' e => by have := (h.ub g' hg').2; omega
      refine ⟨?_, fun g' hg' hx hu' => (hgb g' (by omega) (by omega)).trans (h.st g' hg' hx hu'), h.hu.keep (fun g' hg' => hgb g' (h.hu.lt hg') (hune g' hg')), ho, .inr ⟨g, rfl, hgw⟩, h.ub, h.qs⟩
      exact h.bl.grown h5 (Nat.le_trans h.qs hys) (fun k hk => by injection hk with hk; have := h.qs; omega)
  · have h1 := h.below hbl
    exact ⟨h1.bl, h1.st, h1.hu, ho, .inr ⟨_, by obtain ⟨c', rfl⟩ := hb; rfl, h.bl.size⟩, h.ub, h.qs⟩
/-- lists, longer lists made of them by append, and the row of these -/
structure MV (q : Nat) (e : TypeId) (k q3 : Nat) (wD : World) (U : List (Value × Nat × List Value)) (nw : Nat → List Value) (e16 : TypeId) (v16 : Value) (Y : List Value) (w : World) : Prop where
  bl : Below q wD w
  sz : q3 ≤ w.heap.size
  qq : q ≤ q3
  us : ∀ (t : Nat) u, U[t]? = some u → OA e k u.1 u.2.1 u.2.2 w
  ul : ∀ u ∈ U, ∀ g, u.1.ownBlock = some g → q ≤ g ∧ g < q3
  ud : ∀ (s t : Nat) u u' g, U[s]? = some u → U[t]? = some u' → u.1.ownBlock = some g → u'.1.ownBlock = some g → s = t
  ys : ∀ (t : Nat) u y, U[t]? = some u → Y[t]? = some y → OA e k y (u.2.1 + 40) (u.2.2 ++ nw t) w ∧ ∀ g, y.ownBlock = some g → u.1.ownBlock = some g ∨ q3 ≤ g
  l16 : w.ownsRow q3 e16 1 v16 Y.length Y
theorem MV.start {q : Nat} {e : TypeId} {k : Nat} {wD : World} {U : List (Value × Nat × List Value)} {nw : Nat → List Value} {e16 : TypeId} (hq : q ≤ wD.heap.size) (hu : ∀ u ∈ U, OA e k u.1 u.2.1 u.2.2 wD ∧ ∀ g, u.1.ownBlock = some g → q ≤ g)
    (hd : ∀ (s t : Nat) u u' g, U[s]? = some u → U[t]? = some u' → u.1.ownBlock = some g → u'.1.ownBlock = some g → s = t) : MV q e k wD.heap.size wD U nw e16 (.slice none 0 0) [] wD :=
  ⟨Below.refl _ _, Nat.le_refl _, hq, fun t u h => (hu u (List.mem_of_getElem? h)).1, fun u h g hg => ⟨(hu u h).2 g hg, (hu u h).1.lt hg⟩, hd, fun t u y _ h => by simp at h, own_nil0 _ _ _ _⟩
theorem MV.lr {q : Nat} {e : TypeId} {k q3 : Nat} {wD : World} {U : List (Value × Nat × List Value)} {nw : Nat → List Value} {e16 : TypeId} {v16 : Value} {Y : List Value} {w : World} (h : MV q e k q3 wD U nw e16 v16 Y w) {i : Nat} {u : Value × Nat × List Value} (hu : U[i]? = some u) : LR q e k w.heap.size w u.1 u.2.1 u.2.2 u.1 0 [] w :=
  LR.start (h.us i u hu) (Nat.le_trans h.qq h.sz) (fun g hg => (h.ul u (List.mem_of_getElem? hu) g hg).1)
/-- after the appends to the i-th list -/
theorem MV.mid {q : Nat} {e : TypeId} {k q3 : Nat} {wD : World} {U : List (Value × Nat × List Value)} {nw : Nat → List Value} {e16 : TypeId} {v16 : Value} {Y : List Value} {w y : World} (h : MV q e k q3 wD U nw e16 v16 Y w) {i : Nat} {u : Value × Nat × List Value} (hu : U[i]? = some u) (hY : Y.length = i) {l : Value} {j : Nat} {nx : List Value} (hl : LR q e k w.heap.size w u.1 u.2.1 u.2.2 l j nx y) : MV q e k q3 wD U nw e16 v16 Y y := by
  have hum := List.mem_of_getElem? hu
  have hoth : ∀ (t : Nat) u', U[t]? = some u' → t ≠ i → ∀ g, u'.1.ownBlock = some g → y.heap[g]? = w.heap[g]? := fun t u' hu' ht g hg => by
    refine hl.st g (by have := (h.ul u' (List.mem_of_getElem? hu') g hg).2; have := h.sz; omega) (by have := (h.ul u' (List.mem_of_getElem? hu') g hg).2; have := h.sz; omega) (fun e => ht (h.ud t i u' u g hu' hu hg e))
  refine ⟨h.bl.trans hl.bl, Nat.le_trans h.sz hl.bl.size, h.qq, fun t u' hu' => ?_, h.ul, h.ud, fun t u' y' hu' hy' => ?_, ?_⟩
  · by_cases ht : t = i
    · subst ht
      rw [hu] at hu'
      injection hu' with hu'
      subst hu'
      exact hl.hu
    · exact (h.us t u' hu').keep (hoth t u' hu' ht)
  · have ht : t < i := by rw [← hY]; exact (List.getElem?_eq_some_iff.1 hy').1
    obtain ⟨h1, h2⟩ := h.ys t u' y' hu' hy'
    refine ⟨h1.keep (fun g hg => ?_), h2⟩
    rcases h2 g hg with h2 | h2
    · exact hoth t u' hu' (by omega) g h2
    · exact hl.st g (h1.lt hg) (Nat.ne_of_lt (h1.lt hg)) (fun e => by have := (h.ul u hum g e).2; omega)
  · exact own_keep h.l16 (fun g hg => hl.st g (h.l16.lt g hg).2 (Nat.ne_of_lt (h.l16.lt g hg).2) (fun e => by have := (h.ul u hum g e).2; have := (h.l16.lt g hg).1; omega))
theorem MV.below {q : Nat} {e : TypeId} {k q3 : Nat} {wD : World} {U : List (Value × Nat × List Value)} {nw : Nat → List Value} {e16 : TypeId} {v16 : Value} {Y : List Value} {w y : World} (h : MV q e k q3 wD U nw e16 v16 Y w) (hb : Below w.heap.size w y) : MV q e k q3 wD U nw e16 v16 Y y :=
  ⟨h.bl.trans (hb.mono (Nat.le_trans h.qq h.sz)), Nat.le_trans h.sz hb.size, h.qq, fun t u hu => (h.us t u hu).keep (fun g hg => hb.block g ((h.us t u hu).lt hg)), h.ul, h.ud, fun t u y' hu hy => ⟨(h.ys t u y' hu hy).1.keep (fun g hg => hb.block g ((h.ys t u y' hu hy).1.lt hg)), (h.ys t u y' hu hy).2⟩, own_keep h.l16 (fun g hg => hb.block g (h.l16.lt g hg).2)⟩
theorem OA.ne {e e16 : TypeId} (hne : e ≠ e16) {b k n m : Nat} {v v16 : Value} {xs ys : List Value} {w : World} (h : OA e k v n xs w) (h16 : w.ownsRow b e16 1 v16 m ys) {g : Nat} (hg : v.ownBlock = some g) : v16.ownBlock ≠ some g := fun h2 => by
  rcases h.2 with ⟨rfl, _⟩ | ⟨g', o, cap, cur, rfl, h1, _⟩
  · cases hg
  · rcases h16.2 with ⟨rfl, _⟩ | ⟨g2, cap', cur', rfl, _, h3, _⟩
    · cases h2
    · injection hg with hg
      injection h2 with h2
      subst hg h2
      rw [h1] at h3
      injection h3 with h3
      injection h3 with _ h3
      exact hne h3
/-- the i-th longer list is put into the row -/
theorem MV.put {q : Nat} {e : TypeId} {k q3 : Nat} {wD : World} {U : List (Value × Nat × List Value)} {nw : Nat → List Value} {e16 : TypeId} {v16 v16' : Value} {Y : List Value} {w w' : World} (hne : e ≠ e16) (h : MV q e k q3 wD U nw e16 v16 Y w) {i : Nat} {u : Value × Nat × List Value} (hu : U[i]? = some u) (hY : Y.length = i) {l : Value} (ho : OA e k l (u.2.1 + 40) (u.2.2 ++ nw i) w) (hlb : ∀ g, l.ownBlock = some g → u.1.ownBlock = some g ∨ q3 ≤ g)
    (h16 : w'.ownsRow q3 e16 1 v16' (Y.length + 1) (Y ++ [l])) (hg : w.grownBy w' v16.ownBlock) : MV q e k q3 wD U nw e16 v16' (Y ++ [l]) w' := by
  have hk : ∀ g, g < w.heap.size → v16.ownBlock ≠ some g → w'.heap[g]? = w.heap[g]? := fun g h1 h2 => hg.block g h1 (fun e => h2 e.symm)
  have hoa : ∀ {v n xs}, OA e k v n xs w → OA e k v n xs w' := fun h1 => h1.keep (fun g hg' => hk g (h1.lt hg') (h1.ne hne h.l16 hg'))
  refine ⟨h.bl.grown hg (Nat.le_trans h.qq h.sz) (fun k hk => by have := (h.l16.lt k hk).1; have := h.qq; omega), Nat.le_trans h.sz hg.size, h.qq, fun t u' hu' => hoa (h.us t u' hu'), h.ul, h.ud, fun t u' y hu' hy => ?_, by rw [List.length_append]; exact h16⟩
  rw [List.getElem?_append] at hy
  split at hy
  · exact ⟨hoa (h.ys t u' y hu' hy).1, (h.ys t u' y hu' hy).2⟩
  · have ht : t = i := by
      have h1 := (List.getElem?_eq_some_iff.1 hy).1
      simp only [List.length_singleton] at h1
      omega
    subst ht
    have : y = l := by
      rw [show t - Y.length = 0 by omega] at hy
      simpa using hy.symm
    subst this
    rw [hu] at hu'
    injection hu' with hu'
    subst hu'
    exact ⟨hoa ho, hlb⟩
theorem LR.lb {q : Nat} {e : TypeId} {k X : Nat} {wi : World} {u : Value} {n : Nat} {cs : List Value} {l : Value} {j : Nat} {nw : List Value} {y : World} (h : LR q e k X wi u n cs l j nw y) {q3 : Nat} (h3 : q3 ≤ wi.heap.size) : ∀ g, l.ownBlock = some g → u.ownBlock = some g ∨ q3 ≤ g := fun g hg => by
  rcases h.al with ⟨a, c, rfl, rfl⟩ | ⟨g', hg', hw⟩
  · refine .inl ?_
    cases a <;> exact hg
  · rw [hg'] at hg
    injection hg with hg
    exact .inr (by omega)
theorem obs_inj : ∀ {F : List Lv}, (obs F).Nodup → ∀ {s t : Nat} {f f' : Lv} {g : Nat}, F[s]? = some f → F[t]? = some f' → f.2.1.ownBlock = some g → f'.2.1.ownBlock = some g → s = t
  | [], _, s, t, f, f', g, hs, _, _, _ => by simp at hs
  | x :: F, hn, s, t, f, f', g, hs, ht, hg, hg' => by
    have hn' : (x.2.1.ownBlock.toList ++ obs F).Nodup := by
      have : obs (x :: F) = x.2.1.ownBlock.toList ++ obs F := by unfold obs; rw [List.filterMap_cons]; cases x.2.1.ownBlock <;> rfl
      rw [← this]; exact hn
    have h2 := List.nodup_append.1 hn'
    cases s with
    | zero =>
      cases t with
      | zero => rfl
      | succ t =>
        simp at hs ht
        subst hs
        exact absurd rfl (h2.2.2 g (by rw [hg]; simp) g (obs_mem (List.mem_of_getElem? ht) hg'))
    | succ s =>
      cases t with
      | zero =>
        simp at hs ht
        subst ht
        exact absurd rfl (h2.2.2 g (by rw [hg']; simp) g (obs_mem (List.mem_of_getElem? hs) hg))
      | succ t =>
        simp at hs ht
        rw [obs_inj h2.2.1 hs ht hg hg']
def UF (F : List Lv) : List (Value × Nat × List Value) := F.map fun f => (f.2.1, f.2.2.length, f.2.2.map (Value.int .i64))
theorem UF_at {F : List Lv} {i : Nat} {f : Lv} (hf : F[i]? = some f) : (UF F)[i]? = some (f.2.1, f.2.2.length, f.2.2.map (Value.int .i64)) := by rw [UF, List.getElem?_map, hf]; rfl
theorem appR_keep {e : TypeId} {w w' : World} {v v' : Value} {n k : Nat} (h : AppR e w v n k v' w') : ∀ g, g < w.heap.size → v.ownBlock ≠ some g → w'.heap[g]? = w.heap[g]? := fun g hg hv => by
  rcases h with ⟨g', o, cap, cur, cur', rfl, rfl, h1, h2, h3, h4, h5⟩ | ⟨_, hb⟩
  · exact h5.block g hg (fun e => hv e.symm)
  · exact hb.block g hg
theorem own_of_oa {b : Nat} {e : TypeId} {k n : Nat} {v : Value} {xs ys : List Value} {w w' : World} (h : w.ownsRow b e k v n xs) (h' : OA e k v n ys w') : w'.ownsRow b e k v n ys := by
  refine ⟨h'.1, ?_⟩
  rcases h.2 with ⟨rfl, rfl⟩ | ⟨g, cap, cur, rfl, h1, h2, h3, h4, h5, h6⟩
  · exact .inl ⟨rfl, rfl⟩
  · rcases h'.2 with ⟨h7, _⟩ | ⟨g', o, cap', cur', e1, k1, k2, k3, k4⟩
    · cases h7
    · injection e1 with e1 e2 e3
      injection e1 with e1
      injection e1 with e1 e4
      subst e1 e4 e3
      exact .inr ⟨g, cap, cur', rfl, h1, k1, h3, h4, by omega, by simpa using k4⟩
/-- one append more to a list of numbers -/
theorem LR.int {q n j X : Nat} {wi y : World} {u l : Value} {cs : List Value} {x : Int} (h : LR q 3 1 X wi u n cs l j (rp j [.int .i64 x]) y) (hn : n ≤ 1000000) (hj : j < 40) :
    ∀ ty, ∃ v' w', (Builtin.append_ #[22, 22] ty #[l, .slice (some ⟨y.heap.size, 0, none⟩) 1 1]).run Tryz.prog (y.alloc (.cells #[.int .i64 x] 3)) = .ok v' w' ∧ LR q 3 1 X wi u n cs v' (j + 1) (rp (j + 1) [.int .i64 x]) w' := fun ty => by
  have h1 := h.below ((Below.refl _ y).alloc (Nat.le_refl _) (.cells #[.int .i64 x] 3))
  obtain ⟨v', w', hr, ho, ha⟩ := oa_app Tryz.underlying22 parts_int rfl (by decide) h1.hl (news := [.int .i64 x]) (heap_alloc_new y _) rfl (fun u hu => by simp at hu; subst hu; rfl) (by omega) (by omega) ty
  refine ⟨v', w', hr, ?_⟩
  rw [rp_succ]
  exact h1.app ho ha
/-- the row of the longer lists grows -/
theorem MV.row {q : Nat} {e : TypeId} {k q3 : Nat} {wD : World} {U : List (Value × Nat × List Value)} {nw : Nat → List Value} {e16 t16 : TypeId} (hU : Tryz.prog.underlying t16 = some (.slice e16)) (hI : (Tryz.prog.info? e16).map (fun i => (i.zero, i.size, i.bytes)) = some (some (.slice none 0 0), 1, 24)) (hne : e ≠ e16)
    {v16 : Value} {Y : List Value} {w y : World} (h : MV q e k q3 wD U nw e16 v16 Y w) {i : Nat} {u : Value × Nat × List Value} (hu : U[i]? = some u) (hY : Y.length = i) (hi : i ≤ 1000000) {l : Value} (hl : LR q e k w.heap.size w u.1 u.2.1 u.2.2 l 40 (nw i) y) :
    ∀ ty, ∃ v' w', (Builtin.append_ #[t16, t16] ty #[v16, .slice (some ⟨y.heap.size, 0, none⟩) 1 1]).run Tryz.prog (y.alloc (.cells #[l] e16)) = .ok v' w' ∧ (MV q e k q3 wD U nw e16 v' (Y ++ [l]) w' ∧ (∃ a c, v' = .slice a (i + 1) c) ∧ ∀ g, g < y.heap.size → v16.ownBlock ≠ some g → w'.heap[g]? = y.heap[g]?) := fun ty => by
  have hb : Below y.heap.size y (y.alloc (.cells #[l] e16)) := (Below.refl _ y).alloc (Nat.le_refl _) _
  have h2 := (h.mid hu hY hl).below hb
  have hl2 := hl.below hb
  obtain ⟨al, cl, el⟩ := hl.hl.sl
  obtain ⟨v', w', hr, ho, hg⟩ := own_appQ (m := 1) hU hI rfl (by decide) h2.l16 (news := [l]) (heap_alloc_new y _) rfl (fun u hu => by simp at hu; subst hu; rw [el]; rfl) (by omega) (by omega) h2.sz ty
  refine ⟨v', w', hr, h2.put hne hu hY hl2.hl (hl.lb h.sz) ho hg, ?_⟩
  obtain ⟨a, c, e⟩ := own_slice' ho
  exact ⟨⟨a, c, by rw [e, hY]⟩, fun g hg1 hg2 => (hg.block g (by have := hb.size; omega) (fun e => hg2 e.symm)).trans (hb.block g hg1)⟩
/-- one append more to the lines -/
theorem LR.line {q n j X : Nat} {wi y : World} {u l : Value} {cs : List Value} {x : Int} (h : LR q 43 2 X wi u n cs l j (rp j [.int .i64 x, .slice none 0 0]) y) (hn : n ≤ 1000000) (hj : j < 40) :
    ∀ ty, ∃ v' w', (Builtin.append_ #[24, 24] ty #[l, .slice (some ⟨y.heap.size, 0, none⟩) 1 1]).run Tryz.prog (y.alloc (.cells #[.int .i64 x, .slice none 0 0] 43)) = .ok v' w' ∧ LR q 43 2 X wi u n cs v' (j + 1) (rp (j + 1) [.int .i64 x, .slice none 0 0]) w' ∧ (∃ a c, v' = .slice a (n + j + 1) c) ∧ ∀ g, g < y.heap.size → l.ownBlock ≠ some g → w'.heap[g]? = y.heap[g]? := fun ty => by
  have h1 := h.below ((Below.refl _ y).alloc (Nat.le_refl _) (.cells #[.int .i64 x, .slice none 0 0] 43))
  obtain ⟨v', w', hr, ho, ha⟩ := oa_app Tryz.underlying24 parts_lq rfl (by decide) h1.hl (news := [.int .i64 x, .slice none 0 0]) (heap_alloc_new y _) rfl (fun u hu => by simp at hu; rcases hu with rfl | rfl <;> rfl) (by omega) (by omega) ty
  refine ⟨v', w', hr, ?_, ho.sl, fun g hg hl => (appR_keep ha g (by rw [size_alloc]; omega) hl).trans (((Below.refl _ y).alloc (Nat.le_refl _) (.cells #[.int .i64 x, .slice none 0 0] 43)).block g hg)⟩
  rw [rp_succ]
  exact h1.app ho ha
/-- the box that the longer list is stored in -/
theorem LR.box {q : Nat} {e : TypeId} {k X : Nat} {wi : World} {u : Value} {n : Nat} {cs : List Value} {l : Value} {j : Nat} {nw : List Value} {y : World} (h : LR q e k X wi u n cs l j nw y) (hX : q ≤ X ∧ X < wi.heap.size) (hu : u.ownBlock ≠ some X) (i : Nat) (v : Value) : LR q e k X wi u n cs l j nw (y.setCell ⟨X, i, none⟩ v) := by
  have ho : ∀ b, b ≠ X → (y.setCell ⟨X, i, none⟩ v).heap[b]? = y.heap[b]? := fun b hne => heap_setCell_other _ _ _ _ hne
  refine ⟨h.bl.setCell (p := ⟨X, i, none⟩) hX.1 _, fun g hg hx hu' => (ho g hx).trans (h.st g hg hx hu'), h.hu.keep (fun g hg => ho g (fun e => hu (by rw [← e]; exact hg))), h.hl.keep (fun g hg => ho g (fun e => ?_)), h.al, h.ub, h.qs⟩
  rcases h.lb (Nat.le_refl _) g hg with h1 | h1
  · exact hu (by rw [← e]; exact h1)
  · omega
theorem MV.keep {q : Nat} {e : TypeId} {k q3 : Nat} {wD : World} {U : List (Value × Nat × List Value)} {nw : Nat → List Value} {e16 : TypeId} {v16 : Value} {Y : List Value} {w w' : World} (h : MV q e k q3 wD U nw e16 v16 Y w) (hb : Below q w w') (hk : ∀ g, g < w.heap.size → ((∃ u ∈ U, u.1.ownBlock = some g) ∨ q3 ≤ g) → w'.heap[g]? = w.heap[g]?) (hY : Y.length ≤ U.length) : MV q e k q3 wD U nw e16 v16 Y w' := by
  have hu : ∀ (t : Nat) u, U[t]? = some u → ∀ g, u.1.ownBlock = some g → w'.heap[g]? = w.heap[g]? := fun t u hu g hg => hk g ((h.us t u hu).lt hg) (.inl ⟨u, List.mem_of_getElem? hu, hg⟩)
  refine ⟨h.bl.trans hb, Nat.le_trans h.sz hb.size, h.qq, fun t u hu' => (h.us t u hu').keep (hu t u hu'), h.ul, h.ud, fun t u y hu' hy => ⟨(h.ys t u y hu' hy).1.keep (fun g hg => ?_), (h.ys t u y hu' hy).2⟩, own_keep h.l16 (fun g hg => hk g (h.l16.lt g hg).2 (.inr (h.l16.lt g hg).1))⟩
  rcases (h.ys t u y hu' hy).2 g hg with h1 | h1
  · exact hu t u hu' g h1
  · exact hk g ((h.ys t u y hu' hy).1.lt hg) (.inr h1)
end Go.Proofs.YtpfidohkohldaaaGreatDoor
