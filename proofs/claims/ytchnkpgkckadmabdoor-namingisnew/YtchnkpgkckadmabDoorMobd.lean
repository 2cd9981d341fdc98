import Derived.Test.YtchnkpgkckadmabDoorMobc
namespace Go.Proofs.YtchnkpgkckadmabDoor
set_option linter.unusedSimpArgs false
set_option linter.unusedVariables false
set_option maxRecDepth 100000
open Go.ChangeShapes Go.WideShapes Go.ChangeAt Go.RowKit Go.Pin Go.Pat Go.Deep
/-- j times the same cells -/
def rp (j : Nat) (c : List Value) : List Value := (List.replicate j c).flatten
theorem rp_succ (j : Nat) (c : List Value) : rp (j + 1) c = rp j c ++ c := by unfold rp; rw [List.replicate_succ', List.flatten_append]; simp
/-- a list that has been appended to j times since the world wi -/
structure LR (q : Nat) (e : TypeId) (k : Nat) (wi : World) (u : Value) (n : Nat) (cs : List Value) (l : Value) (j : Nat) (nw : List Value) (y : World) : Prop where
  bl : Below q wi y
  st : ∀ g, g < wi.heap.size → u.ownBlock ≠ some g → y.heap[g]? = wi.heap[g]?
  hu : OA e k u n cs y
  hl : OA e k l (n + j) (cs ++ nw) y
  al : (∃ a c, u = .slice a n c ∧ l = .slice a (n + j) c) ∨ ∃ g, l.ownBlock = some g ∧ wi.heap.size ≤ g
  ub : ∀ g, u.ownBlock = some g → q ≤ g ∧ g < wi.heap.size
  qs : q ≤ wi.heap.size
theorem LR.start {q : Nat} {e : TypeId} {k : Nat} {wi : World} {u : Value} {n : Nat} {cs : List Value} (h : OA e k u n cs wi) (hq : q ≤ wi.heap.size) (hb : ∀ g, u.ownBlock = some g → q ≤ g) : LR q e k wi u n cs u 0 [] wi := by
  obtain ⟨a, c, rfl⟩ := h.sl
  exact ⟨Below.refl _ _, fun _ _ _ => rfl, h, by simpa using h, .inl ⟨a, c, rfl, rfl⟩, fun g hg => ⟨hb g hg, h.lt hg⟩, hq⟩
theorem LR.below {q : Nat} {e : TypeId} {k : Nat} {wi : World} {u : Value} {n : Nat} {cs : List Value} {l : Value} {j : Nat} {nw : List Value} {y y' : World} (h : LR q e k wi u n cs l j nw y) (hb : Below y.heap.size y y') : LR q e k wi u n cs l j nw y' :=
  ⟨h.bl.trans (hb.mono (Nat.le_trans h.qs h.bl.size)), fun g hg hu => (hb.block g (Nat.lt_of_lt_of_le hg h.bl.size)).trans (h.st g hg hu), h.hu.keep (fun g hg => hb.block g (h.hu.lt hg)), h.hl.keep (fun g hg => hb.block g (h.hl.lt hg)), h.al, h.ub, h.qs⟩
theorem LR.app {q : Nat} {e : TypeId} {k : Nat} {wi : World} {u : Value} {n : Nat} {cs : List Value} {l : Value} {j : Nat} {nw : List Value} {y y' : World} {l' : Value} {c : List Value} (h : LR q e k wi u n cs l j nw y) (ho : OA e k l' (n + j + 1) (cs ++ nw ++ c) y') (ha : AppR e y l (n + j) k l' y') : LR q e k wi u n cs l' (j + 1) (nw ++ c) y' := by
  rw [List.append_assoc] at ho
  rcases ha with ⟨g, o, cap, cur, cur', rfl, rfl, h1, h2, h3, h4, h5⟩ | ⟨hb, hbl⟩
  · have hgb : ∀ g', g' < y.heap.size → g' ≠ g → y'.heap[g']? = y.heap[g']? := fun g' hg hne => h5.block g' hg (fun e => hne (by cases e; rfl))
    have hys : wi.heap.size ≤ y.heap.size := h.bl.size
    rcases h.al with ⟨a, c', hu, hl⟩ | ⟨g', hg', hgw⟩
    · injection hl with e1 e2 e3
      subst e1 e3 hu
      have hub := h.ub g rfl
      refine ⟨?_, fun g' hg' hu' => (hgb g' (by omega) (fun e => hu' (by rw [e]; rfl))).trans (h.st g' hg' hu'), ?_, ho, .inl ⟨_, _, rfl, rfl⟩, h.ub, h.qs⟩
      · exact h.bl.grown h5 (Nat.le_trans h.qs hys) (fun k hk => by injection hk with hk; omega)
      · exact h.hu.inPlace (n := n + j) (by omega) h1 h2 h3 h4
    · have hgg : g = g' := by injection hg'
      have hgw : wi.heap.size ≤ g := by omega
      have hune : ∀ g', u.ownBlock = some g' → g' ≠ g := fun g' hg' e => by have := (h.ub g' hg').2; omega
      refine ⟨?_, fun g' hg' hu' => (hgb g' (by omega) (by omega)).trans (h.st g' hg' hu'), h.hu.keep (fun g' hg' => hgb g' (h.hu.lt hg') (hune g' hg')), ho, .inr ⟨g, rfl, hgw⟩, h.ub, h.qs⟩
      exact h.bl.grown h5 (Nat.le_trans h.qs hys) (fun k hk => by injection hk with hk; have := h.qs; omega)
  · have h1 := h.below hbl
    exact ⟨h1.bl, h1.st, h1.hu, ho, .inr ⟨_, hb, h.bl.size⟩, h.ub, h.qs⟩
/-- lists, longer lists made of them by append, and the row of these -/
structure MV (q : Nat) (e : TypeId) (k q3 : Nat) (wD : World) (U : List (Value × Nat × List Value)) (nw : Nat → List Value) (e16 : TypeId) (v16 : Value) (Y : List Value) (w : World) : Prop where
  bl : Below q wD w
  st : ∀ g, g < q3 → (∀ u ∈ U, u.1.ownBlock ≠ some g) → w.heap[g]? = wD.heap[g]?
  sz : q3 ≤ w.heap.size
  qq : q ≤ q3
  us : ∀ (t : Nat) u, U[t]? = some u → OA e k u.1 u.2.1 u.2.2 w
  ul : ∀ u ∈ U, ∀ g, u.1.ownBlock = some g → q ≤ g ∧ g < q3
  ud : ∀ (s t : Nat) u u' g, U[s]? = some u → U[t]? = some u' → u.1.ownBlock = some g → u'.1.ownBlock = some g → s = t
  ys : ∀ (t : Nat) u y, U[t]? = some u → Y[t]? = some y → OA e k y (u.2.1 + 9) (u.2.2 ++ nw t) w ∧ ∀ g, y.ownBlock = some g → u.1.ownBlock = some g ∨ q3 ≤ g
  l16 : w.ownsRow q3 e16 1 v16 Y.length Y
theorem MV.start {q : Nat} {e : TypeId} {k : Nat} {wD : World} {U : List (Value × Nat × List Value)} {nw : Nat → List Value} {e16 : TypeId} (hq : q ≤ wD.heap.size) (hu : ∀ u ∈ U, OA e k u.1 u.2.1 u.2.2 wD ∧ ∀ g, u.1.ownBlock = some g → q ≤ g)
    (hd : ∀ (s t : Nat) u u' g, U[s]? = some u → U[t]? = some u' → u.1.ownBlock = some g → u'.1.ownBlock = some g → s = t) : MV q e k wD.heap.size wD U nw e16 (.slice none 0 0) [] wD :=
  ⟨Below.refl _ _, fun _ _ _ => rfl, Nat.le_refl _, hq, fun t u h => (hu u (List.mem_of_getElem? h)).1, fun u h g hg => ⟨(hu u h).2 g hg, (hu u h).1.lt hg⟩, hd, fun t u y _ h => by simp at h, own_nil0 _ _ _ _⟩
theorem MV.lr {q : Nat} {e : TypeId} {k q3 : Nat} {wD : World} {U : List (Value × Nat × List Value)} {nw : Nat → List Value} {e16 : TypeId} {v16 : Value} {Y : List Value} {w : World} (h : MV q e k q3 wD U nw e16 v16 Y w) {i : Nat} {u : Value × Nat × List Value} (hu : U[i]? = some u) : LR q e k w u.1 u.2.1 u.2.2 u.1 0 [] w :=
  LR.start (h.us i u hu) (Nat.le_trans h.qq h.sz) (fun g hg => (h.ul u (List.mem_of_getElem? hu) g hg).1)
/-- after the appends to the i-th list -/
theorem MV.mid {q : Nat} {e : TypeId} {k q3 : Nat} {wD : World} {U : List (Value × Nat × List Value)} {nw : Nat → List Value} {e16 : TypeId} {v16 : Value} {Y : List Value} {w y : World} (h : MV q e k q3 wD U nw e16 v16 Y w) {i : Nat} {u : Value × Nat × List Value} (hu : U[i]? = some u) (hY : Y.length = i) {l : Value} {j : Nat} {nx : List Value} (hl : LR q e k w u.1 u.2.1 u.2.2 l j nx y) : MV q e k q3 wD U nw e16 v16 Y y := by
  have hum := List.mem_of_getElem? hu
  have hoth : ∀ (t : Nat) u', U[t]? = some u' → t ≠ i → ∀ g, u'.1.ownBlock = some g → y.heap[g]? = w.heap[g]? := fun t u' hu' ht g hg => by
    refine hl.st g (by have := (h.ul u' (List.mem_of_getElem? hu') g hg).2; have := h.sz; omega) (fun e => ht (h.ud t i u' u g hu' hu hg e))
  refine ⟨h.bl.trans hl.bl, fun g hg hn => (hl.st g (Nat.lt_of_lt_of_le hg h.sz) (hn u hum)).trans (h.st g hg hn), Nat.le_trans h.sz hl.bl.size, h.qq, fun t u' hu' => ?_, h.ul, h.ud, fun t u' y' hu' hy' => ?_, ?_⟩
  · by_cases ht : t = i
    · subst ht
      rw [hu] at hu'
      injection hu' with hu'
      subst hu'
      exact hl.hu
    · exact (h.us t u' hu').keep (hoth t u' hu' ht)
  · have ht : t < i := by rw [← hY]; exact (List.getElem?_eq_some_iff.1 hy').1
    obtain ⟨h1, h2⟩ := h.ys t u' y' hu' hy'
    refine ⟨h1.keep (fun g hg => ?_), h2⟩
    rcases h2 g hg with h2 | h2
    · exact hoth t u' hu' (by omega) g h2
    · exact hl.st g (h1.lt hg) (fun e => by have := (h.ul u hum g e).2; omega)
  · exact own_keep h.l16 (fun g hg => hl.st g (h.l16.lt g hg).2 (fun e => by have := (h.ul u hum g e).2; have := (h.l16.lt g hg).1; omega))
theorem MV.below {q : Nat} {e : TypeId} {k q3 : Nat} {wD : World} {U : List (Value × Nat × List Value)} {nw : Nat → List Value} {e16 : TypeId} {v16 : Value} {Y : List Value} {w y : World} (h : MV q e k q3 wD U nw e16 v16 Y w) (hb : Below w.heap.size w y) : MV q e k q3 wD U nw e16 v16 Y y :=
  ⟨h.bl.trans (hb.mono (Nat.le_trans h.qq h.sz)), fun g hg hn => (hb.block g (Nat.lt_of_lt_of_le hg h.sz)).trans (h.st g hg hn), Nat.le_trans h.sz hb.size, h.qq, fun t u hu => (h.us t u hu).keep (fun g hg => hb.block g ((h.us t u hu).lt hg)), h.ul, h.ud, fun t u y' hu hy => ⟨(h.ys t u y' hu hy).1.keep (fun g hg => hb.block g ((h.ys t u y' hu hy).1.lt hg)), (h.ys t u y' hu hy).2⟩, own_keep h.l16 (fun g hg => hb.block g (h.l16.lt g hg).2)⟩
theorem OA.ne {e e16 : TypeId} (hne : e ≠ e16) {b k n m : Nat} {v v16 : Value} {xs ys : List Value} {w : World} (h : OA e k v n xs w) (h16 : w.ownsRow b e16 1 v16 m ys) {g : Nat} (hg : v.ownBlock = some g) : v16.ownBlock ≠ some g := fun h2 => by
  rcases h.2 with ⟨rfl, _⟩ | ⟨g', o, cap, cur, rfl, h1, _⟩
  · cases hg
  · rcases h16.2 with ⟨rfl, _⟩ | ⟨g2, cap', cur', rfl, _, h3, _⟩
    · cases h2
    · injection hg with hg
      injection h2 with h2
      subst hg h2
      rw [h1] at h3
      injection h3 with h3
      injection h3 with _ h3
      exact hne h3
/-- the i-th longer list is put into the row -/
theorem MV.put {q : Nat} {e : TypeId} {k q3 : Nat} {wD : World} {U : List (Value × Nat × List Value)} {nw : Nat → List Value} {e16 : TypeId} {v16 v16' : Value} {Y : List Value} {w w' : World} (hne : e ≠ e16) (h : MV q e k q3 wD U nw e16 v16 Y w) {i : Nat} {u : Value × Nat × List Value} (hu : U[i]? = some u) (hY : Y.length = i) {l : Value} (ho : OA e k l (u.2.1 + 9) (u.2.2 ++ nw i) w) (hlb : ∀ g, l.ownBlock = some g → u.1.ownBlock = some g ∨ q3 ≤ g)
    (h16 : w'.ownsRow q3 e16 1 v16' (Y.length + 1) (Y ++ [l])) (hg : w.grownBy w' v16.ownBlock) : MV q e k q3 wD U nw e16 v16' (Y ++ [l]) w' := by
  have hk : ∀ g, g < w.heap.size → v16.ownBlock ≠ some g → w'.heap[g]? = w.heap[g]? := fun g h1 h2 => hg.block g h1 (fun e => h2 e.symm)
  have hoa : ∀ {v n xs}, OA e k v n xs w → OA e k v n xs w' := fun h1 => h1.keep (fun g hg' => hk g (h1.lt hg') (h1.ne hne h.l16 hg'))
  refine ⟨h.bl.grown hg (Nat.le_trans h.qq h.sz) (fun k hk => by have := (h.l16.lt k hk).1; have := h.qq; omega), fun g hg' hn => (hk g (by have := h.sz; omega) (fun e => by have := (h.l16.lt g e).1; omega)).trans (h.st g hg' hn), Nat.le_trans h.sz hg.size, h.qq, fun t u' hu' => hoa (h.us t u' hu'), h.ul, h.ud, fun t u' y hu' hy => ?_, by rw [List.length_append]; exact h16⟩
  rw [List.getElem?_append] at hy
  split at hy
  · exact ⟨hoa (h.ys t u' y hu' hy).1, (h.ys t u' y hu' hy).2⟩
  · have ht : t = i := by
      have h1 := (List.getElem?_eq_some_iff.1 hy).1
      simp only [List.length_singleton] at h1
      omega
    subst ht
    have : y = l := by
      rw [show t - Y.length = 0 by omega] at hy
      simpa using hy.symm
    subst this
    rw [hu] at hu'
    injection hu' with hu'
    subst hu'
    exact ⟨hoa ho, hlb⟩
theorem LR.lb {q : Nat} {e : TypeId} {k : Nat} {wi : World} {u : Value} {n : Nat} {cs : List Value} {l : Value} {j : Nat} {nw : List Value} {y : World} (h : LR q e k wi u n cs l j nw y) {q3 : Nat} (h3 : q3 ≤ wi.heap.size) : ∀ g, l.ownBlock = some g → u.ownBlock = some g ∨ q3 ≤ g := fun g hg => by
  rcases h.al with ⟨a, c, rfl, rfl⟩ | ⟨g', hg', hw⟩
  · refine .inl ?_
    cases a <;> exact hg
  · rw [hg'] at hg
    injection hg with hg
    exact .inr (by omega)
end Go.Proofs.YtchnkpgkckadmabDoor
namespace Go.Proofs.YtchnkpgkckadmabDoor
set_option linter.unusedSimpArgs false
set_option linter.unusedVariables false
set_option maxRecDepth 100000
open Go.ChangeShapes Go.WideShapes Go.ChangeAt Go.RowKit Go.Pin Go.Pat Go.Deep
theorem obs_inj : ∀ {F : List Lv}, (obs F).Nodup → ∀ {s t : Nat} {f f' : Lv} {g : Nat}, F[s]? = some f → F[t]? = some f' → f.2.1.ownBlock = some g → f'.2.1.ownBlock = some g → s = t
  | [], _, s, t, f, f', g, hs, _, _, _ => by simp at hs
  | x :: F, hn, s, t, f, f', g, hs, ht, hg, hg' => by
    have hn' : (x.2.1.ownBlock.toList ++ obs F).Nodup := by
      have : obs (x :: F) = x.2.1.ownBlock.toList ++ obs F := by unfold obs; rw [List.filterMap_cons]; cases x.2.1.ownBlock <;> rfl
      rw [← this]; exact hn
    have h2 := List.nodup_append.1 hn'
    cases s with
    | zero =>
      cases t with
      | zero => rfl
      | succ t =>
        simp at hs ht
        subst hs
        exact absurd rfl (h2.2.2 g (by rw [hg]; simp) g (obs_mem (List.mem_of_getElem? ht) hg'))
    | succ s =>
      cases t with
      | zero =>
        simp at hs ht
        subst ht
        exact absurd rfl (h2.2.2 g (by rw [hg']; simp) g (obs_mem (List.mem_of_getElem? hs) hg))
      | succ t =>
        simp at hs ht
        rw [obs_inj h2.2.1 hs ht hg hg']
def UF (F : List Lv) : List (Value × Nat × List Value) := F.map fun f => (f.2.1, f.2.2.length, f.2.2.map (Value.int .i64))
def nwI (t : Nat) : List Value := rp 9 [.int .i64 (100 + (t : Int))]
theorem SC.mv {q q2 : Nat} {W0 w : World} {v6 v11 : Value} {Q : List (PE × Nat)} {F : List Lv} (h : SC q q2 W0 v6 v11 Q F w) (hq : q < w.heap.size) : MV (q + 1) 3 1 w.heap.size w (UF F) nwI 25 (.slice none 0 0) [] w := by
  refine MV.start hq (fun u hu => ?_) (fun s t u u' g hs ht hg hg' => ?_)
  · obtain ⟨f, hf, rfl⟩ := List.mem_map.1 hu
    exact ⟨own_oa (h.ow f hf), fun g hg => ((h.ow f hf).lt g hg).1⟩
  · rw [UF, List.getElem?_map] at hs ht
    obtain ⟨f, hf, rfl⟩ := Option.map_eq_some_iff.1 hs
    obtain ⟨f', hf', rfl⟩ := Option.map_eq_some_iff.1 ht
    exact obs_inj (List.nodup_append.1 (List.nodup_append.1 h.nd).2.1).2.1 hf hf' hg hg'
/-- the list of all lists stays while they are appended to -/
theorem MV.l11 {q q2 : Nat} {W0 wD w : World} {v6 v11 v16 : Value} {Q : List (PE × Nat)} {F : List Lv} {Y : List Value} {nw : Nat → List Value} {e16 : TypeId} (h : MV (q + 1) 3 1 wD.heap.size wD (UF F) nw e16 v16 Y w) (hs : SC q q2 W0 v6 v11 Q F wD) : w.ownsRow q2 25 1 v11 F.length (F.map fun f => f.2.1) :=
  own_keep hs.l11 (fun g hg => h.st g (hs.l11.lt g hg).2 (fun u hu e => by
    obtain ⟨f, hf, rfl⟩ := List.mem_map.1 hu
    have h1 := (hs.lo g (List.mem_append_right _ (List.mem_append_right _ (obs_mem hf e)))).2
    have h2 := (hs.l11.lt g hg).1
    omega))
theorem MV.at11 {q q2 : Nat} {W0 wD w : World} {v6 v16 : Value} {a11 : Option Addr} {m k11 : Nat} {Q : List (PE × Nat)} {F : List Lv} {Y : List Value} {nw : Nat → List Value} {e16 : TypeId} (h : MV (q + 1) 3 1 wD.heap.size wD (UF F) nw e16 v16 Y w) (hs : SC q q2 W0 v6 (.slice a11 m k11) Q F wD) {i : Nat} {f : Lv} (hf : F[i]? = some f) : ∃ g, a11 = some ⟨g, 0, none⟩ ∧ w.cell? ⟨g, i, none⟩ = some f.2.1 := by
  obtain ⟨g, e, _, hc⟩ := (own_cell (h.l11 hs)).2 i f.2.1 (by rw [List.getElem?_map, hf]; rfl)
  exact ⟨g, e, hc⟩
theorem UF_at {F : List Lv} {i : Nat} {f : Lv} (hf : F[i]? = some f) : (UF F)[i]? = some (f.2.1, f.2.2.length, f.2.2.map (Value.int .i64)) := by rw [UF, List.getElem?_map, hf]; rfl
/-- one append more to a list of numbers -/
theorem LR.int {q n j : Nat} {wi y : World} {u l : Value} {cs : List Value} {x : Int} (h : LR q 3 1 wi u n cs l j (rp j [.int .i64 x]) y) (hn : n ≤ 24) (hj : j < 9) :
    ∀ ty, ∃ v' w', (Builtin.append_ #[25, 25] ty #[l, .slice (some ⟨y.heap.size, 0, none⟩) 1 1]).run Tryd.prog (y.alloc (.cells #[.int .i64 x] 3)) = .ok v' w' ∧ LR q 3 1 wi u n cs v' (j + 1) (rp (j + 1) [.int .i64 x]) w' := fun ty => by
  have h1 := h.below ((Below.refl _ y).alloc (Nat.le_refl _) (.cells #[.int .i64 x] 3))
  obtain ⟨v', w', hr, ho, ha⟩ := oa_app Tryd.underlying25 parts_int rfl (by decide) h1.hl (news := [.int .i64 x]) (heap_alloc_new y _) rfl (fun u hu => by simp at hu; subst hu; rfl) (by omega) (by omega) ty
  refine ⟨v', w', hr, ?_⟩
  rw [rp_succ]
  exact h1.app ho ha
/-- the row of the longer lists grows -/
theorem MV.row {q : Nat} {e : TypeId} {k q3 : Nat} {wD : World} {U : List (Value × Nat × List Value)} {nw : Nat → List Value} {e16 t16 : TypeId} (hU : Tryd.prog.underlying t16 = some (.slice e16)) (hI : (Tryd.prog.info? e16).map (fun i => (i.zero, i.size, i.bytes)) = some (some (.slice none 0 0), 1, 24)) (hne : e ≠ e16)
    {v16 : Value} {Y : List Value} {w y : World} (h : MV q e k q3 wD U nw e16 v16 Y w) {i : Nat} {u : Value × Nat × List Value} (hu : U[i]? = some u) (hY : Y.length = i) (hi : i ≤ 1000) {l : Value} (hl : LR q e k w u.1 u.2.1 u.2.2 l 9 (nw i) y) :
    ∀ ty, ∃ v' w', (Builtin.append_ #[t16, t16] ty #[v16, .slice (some ⟨y.heap.size, 0, none⟩) 1 1]).run Tryd.prog (y.alloc (.cells #[l] e16)) = .ok v' w' ∧ (MV q e k q3 wD U nw e16 v' (Y ++ [l]) w' ∧ ∃ a c, v' = .slice a (i + 1) c) := fun ty => by
  have hb : Below y.heap.size y (y.alloc (.cells #[l] e16)) := (Below.refl _ y).alloc (Nat.le_refl _) _
  have h2 := (h.mid hu hY hl).below hb
  have hl2 := hl.below hb
  obtain ⟨al, cl, el⟩ := hl.hl.sl
  obtain ⟨v', w', hr, ho, hg, _⟩ := own_appK (m := 1) hU hI rfl h2.l16 (news := [l]) (heap_alloc_new y _) rfl (fun u hu => by simp at hu; subst hu; rw [el]; rfl) (by omega) (by omega) h2.sz ty
  refine ⟨v', w', hr, h2.put hne hu hY hl2.hl (hl.lb h.sz) ho hg, ?_⟩
  obtain ⟨a, c, e⟩ := own_slice' ho
  exact ⟨a, c, by rw [e, hY]⟩
end Go.Proofs.YtchnkpgkckadmabDoor
namespace Go.Proofs.YtchnkpgkckadmabDoor
set_option linter.unusedSimpArgs false
set_option linter.unusedVariables false
set_option maxRecDepth 100000
open Go.ChangeShapes Go.WideShapes Go.ChangeAt Go.RowKit Go.Pin Go.Pat Go.Deep
theorem rp_at {c : List Value} {k j : Nat} (hk : c.length = k) : ∀ (n : Nat) {a b : Nat} {v : Value}, a < n → b < k → c[b]? = some v → (rp n c)[a * k + b]? = some v
  | 0, a, _, _, h, _, _ => by omega
  | n + 1, 0, b, v, _, hb, hv => by
    unfold rp
    rw [List.replicate_succ, List.flatten_cons, Nat.zero_mul, Nat.zero_add, List.getElem?_append_left (by omega)]
    exact hv
  | n + 1, a + 1, b, v, h, hb, hv => by
    have := rp_at (j := j) hk n (a := a) (b := b) (by omega) hb hv
    unfold rp at this ⊢
    rw [List.replicate_succ, List.flatten_cons, List.getElem?_append_right (by rw [hk, Nat.add_mul]; omega), hk, show (a + 1) * k + b - k = a * k + b by rw [Nat.add_mul]; omega]
    exact this
theorem rp_one (n : Nat) (v : Value) : rp n [v] = List.replicate n v := by
  induction n with
  | zero => rfl
  | succ n ih => rw [rp_succ, ih, List.replicate_succ']
/-- what the t-th longer list and the t-th list hold -/
theorem MV.rd {q q2 m : Nat} {W0 wD w : World} {v6 : Value} {a11 a16 : Option Addr} {k11 k16 : Nat} {Q : List (PE × Nat)} {F : List Lv} {Y : List Value} (h : MV (q + 1) 3 1 wD.heap.size wD (UF F) nwI 25 (.slice a16 m k16) Y w) (hs : SC q q2 W0 v6 (.slice a11 m k11) Q F wD) (hY : Y.length = m)
    (hF : F.length = m ∧ ∀ (t : Nat) (f : Lv), F[t]? = some f → f.2.2.length ≤ 24 ∧ f.2.2 = List.replicate f.2.2.length (100 + (t : Int))) {t : Nat} (ht : t < m) :
    ∃ g16 g11 gy oy ny cy zu Lc lu, a16 = some ⟨g16, 0, none⟩ ∧ a11 = some ⟨g11, 0, none⟩ ∧ ny = Lc + 9 ∧ Lc ≤ 24 ∧ w.cell? ⟨g16, t, none⟩ = some (.slice (some ⟨gy, oy, none⟩) ny cy) ∧ w.cell? ⟨g11, t, none⟩ = some (.slice zu Lc lu) ∧
      (∀ k, k < ny → w.cell? ⟨gy, oy + k, none⟩ = some (.int .i64 (100 + (t : Int)))) ∧ (∀ k, k < Lc → ∃ gu ou, zu = some ⟨gu, ou, none⟩ ∧ w.cell? ⟨gu, ou + k, none⟩ = some (.int .i64 (100 + (t : Int)))) := by
  have htF : t < F.length := by rw [hF.1]; exact ht
  have htY : t < Y.length := by rw [hY]; exact ht
  obtain ⟨f, hf⟩ : ∃ f, F[t]? = some f := ⟨_, List.getElem?_eq_getElem htF⟩
  obtain ⟨y, hy⟩ : ∃ y, Y[t]? = some y := ⟨_, List.getElem?_eq_getElem htY⟩
  obtain ⟨g11, e11, c11⟩ := h.at11 hs hf
  obtain ⟨g16, e16, _, c16⟩ := (own_cell h.l16).2 t y hy
  have hui := UF_at hf
  have hou := h.us t _ hui
  have hoy := (h.ys t _ y hui hy).1
  obtain ⟨h24, hrep⟩ := hF.2 t f hf
  simp only at hou hoy
  have hall : f.2.2.map (Value.int .i64) ++ nwI t = List.replicate (f.2.2.length + 9) (Value.int .i64 (100 + (t : Int))) := by
    rw [nwI, rp_one]
    conv => lhs; rw [hrep]
    rw [List.map_replicate, List.replicate_append_replicate]
  have hall2 : f.2.2.map (Value.int .i64) = List.replicate f.2.2.length (Value.int .i64 (100 + (t : Int))) := by
    conv => lhs; rw [hrep]
    rw [List.map_replicate]
  rw [hall] at hoy
  rw [hall2] at hou
  obtain ⟨zu, lu, hu⟩ := hou.sl
  obtain ⟨zy, ly, hyv⟩ := hoy.sl
  rw [hu] at hou c11
  rw [hyv] at hoy c16
  have hy0 := hoy.cell (j := 0) (u := .int .i64 (100 + (t : Int))) (by rw [List.getElem?_replicate]; simp)
  obtain ⟨_, gy, oy, ey, _, _⟩ := hy0
  subst ey
  refine ⟨g16, g11, gy, oy, _, ly, zu, _, lu, e16, e11, rfl, h24, c16, c11, fun k hk => ?_, fun k hk => ?_⟩
  · obtain ⟨_, g', o', e', hc, _⟩ := hoy.cell (j := k) (u := .int .i64 (100 + (t : Int))) (by rw [List.getElem?_replicate]; simp [hk])
    injection e' with e'
    injection e' with e1 e2
    subst e1 e2
    exact hc
  · obtain ⟨_, g', o', e', hc, _⟩ := hou.cell (j := k) (u := .int .i64 (100 + (t : Int))) (by rw [List.getElem?_replicate]; simp [hk])
    exact ⟨g', o', e', hc⟩
/-- patterns whose lines hold the rows K -/
structure SE (q : Nat) (W0 : World) (v6 : Value) (Q : List (PE × Nat)) (K : List (List Value)) (w : World) : Prop where
  old : Below q W0 w
  a6 : w.ownsRow (q + 1) 29 4 v6 Q.length (qcs Q)
  bk : ∀ x ∈ Q, x.1.vl.ownBlock = some x.2 ∧ q + 1 ≤ x.2 ∧ x.1.fs.length ≤ 24
  ln : ∀ (t : Nat) x c, Q[t]? = some x → K[t]? = some c → OA 36 2 x.1.vl x.1.fs.length c w
  kl : K.length = Q.length
  nd : (Q.map (·.2)).Nodup
  sz : q < w.heap.size
theorem LnZ.oa {g : Nat} {p : PE} {w : World} (h : LnZ g p w) : p.vl.ownBlock = some g ∧ ∃ c, OA 36 2 p.vl p.fs.length c w := by
  obtain ⟨o, cur, cap, h1, h2, h3, h4, h5⟩ := h
  rw [h1]
  refine ⟨rfl, (cur.toList.drop o).take (p.fs.length * 2), ?_, .inr ⟨g, o, cap, cur, rfl, h3, h2, h5, rfl⟩⟩
  rw [List.length_take, List.length_drop, Array.length_toList]
  omega
theorem ex_list {P : Nat → List Value → Prop} : ∀ n, (∀ t, t < n → ∃ c, P t c) → ∃ K : List (List Value), K.length = n ∧ ∀ t c, K[t]? = some c → P t c
  | 0, _ => ⟨[], rfl, fun t c h => by simp at h⟩
  | n + 1, h => by
    obtain ⟨K, h1, h2⟩ := ex_list n (fun t ht => h t (by omega))
    obtain ⟨c, hc⟩ := h n (by omega)
    refine ⟨K ++ [c], by simp [h1], fun t c' ht => ?_⟩
    rw [List.getElem?_append] at ht
    split at ht
    · exact h2 t c' ht
    · rename_i hlt
      have h3 := (List.getElem?_eq_some_iff.1 ht).1
      simp only [List.length_singleton] at h3
      have : t = n := by omega
      subst this
      rw [show t - K.length = 0 by omega] at ht
      have : c = c' := by simpa using ht
      subst this
      exact hc
theorem MV.se {q q2 : Nat} {W0 wD w : World} {v6 v11 v16 : Value} {Q : List (PE × Nat)} {F : List Lv} {Y : List Value} {nw : Nat → List Value} {e16 : TypeId} (h : MV (q + 1) 3 1 wD.heap.size wD (UF F) nw e16 v16 Y w) (hs : SC q q2 W0 v6 v11 Q F wD) (hb : ∀ x ∈ Q, x.1.fs.length ≤ 24) : ∃ K, SE q W0 v6 Q K w := by
  have n1 := List.nodup_append.1 hs.nd
  have n2 := List.nodup_append.1 n1.2.1
  have hkp : ∀ g, g < wD.heap.size → g ∉ obs F → w.heap[g]? = wD.heap[g]? := fun g hg hn => h.st g hg (fun u hu e => by
    obtain ⟨f, hf, rfl⟩ := List.mem_map.1 hu
    exact hn (obs_mem hf e))
  have hl : ∀ x ∈ Q, LnZ x.2 x.1 w := fun x hx => (hs.ln x hx).2.keep (hkp _ (hs.ln x hx).2.lt (fun hm => n2.2.2 x.2 (List.mem_map.2 ⟨x, hx, rfl⟩) x.2 hm rfl))
  obtain ⟨K, k1, k2⟩ := ex_list (P := fun t c => ∀ x, Q[t]? = some x → OA 36 2 x.1.vl x.1.fs.length c w) Q.length (fun t ht => by
    obtain ⟨x, hx⟩ : ∃ x, Q[t]? = some x := ⟨_, List.getElem?_eq_getElem ht⟩
    obtain ⟨c, hc⟩ := (hl x (List.mem_of_getElem? hx)).oa.2
    exact ⟨c, fun x' hx' => by rw [hx] at hx'; injection hx' with hx'; subst hx'; exact hc⟩)
  have hq := h.qq
  refine ⟨K, hs.old.trans (h.bl.mono (Nat.le_succ q)), own_keep hs.a6 (fun g hg => hkp g (hs.a6.lt g hg).2 (fun hm => n1.2.2 g (by rw [hg]; simp) g (List.mem_append_right _ hm) rfl)), fun x hx => ⟨(hl x hx).oa.1, (hs.ln x hx).1, hb x hx⟩, fun t x c hx hc => k2 t c hc x hx, k1, n2.1, ?_⟩
  have := h.sz
  omega
end Go.Proofs.YtchnkpgkckadmabDoor
namespace Go.Proofs.YtchnkpgkckadmabDoor
set_option linter.unusedSimpArgs false
set_option linter.unusedVariables false
set_option maxRecDepth 100000
open Go.ChangeShapes Go.WideShapes Go.ChangeAt Go.RowKit Go.Pin Go.Pat Go.Deep
theorem OA.nek {e e6 : TypeId} (hne : e ≠ e6) {b k k6 n m : Nat} {v v6 : Value} {xs ys : List Value} {w : World} (h : OA e k v n xs w) (h6 : w.ownsRow b e6 k6 v6 m ys) {g : Nat} (hg : v.ownBlock = some g) : v6.ownBlock ≠ some g := fun h2 => by
  rcases h.2 with ⟨rfl, _⟩ | ⟨g', o, cap, cur, rfl, h1, _⟩
  · cases hg
  · rcases h6.2 with ⟨rfl, _⟩ | ⟨g2, cap', cur', rfl, _, h3, _⟩
    · cases h2
    · injection hg with hg
      injection h2 with h2
      subst hg h2
      rw [h1] at h3
      injection h3 with h3
      injection h3 with _ h3
      exact hne h3
theorem OA.set1 {e : TypeId} {k g o n cap : Nat} {xs : List Value} {w : World} (h : OA e k (.slice (some ⟨g, o, none⟩) n cap) n xs w) (j : Nat) (v : Value) : OA e k (.slice (some ⟨g, o, none⟩) n cap) n (xs.set j v) (w.setCell ⟨g, o + j, none⟩ v) := by
  refine ⟨by rw [List.length_set]; exact h.1, ?_⟩
  rcases h.2 with ⟨h1, _⟩ | ⟨g', o', cap', cur, h1, h2, h3, h4, h5⟩
  · cases h1
  · injection h1 with e1 e2 e3
    injection e1 with e1
    injection e1 with e1 e4
    subst e1 e4 e3
    refine .inr ⟨g, o, cap, cur.setIfInBounds (o + j) v, rfl, heap_setCell_same w _ _ _ _ _ h2, h3, by rw [Array.size_setIfInBounds]; exact h4, ?_⟩
    rw [Array.toList_setIfInBounds, List.drop_set, if_neg (by omega), List.take_set, h5, show o + j - o = j by omega]
theorem SE.set1 {q : Nat} {W0 w : World} {v6 : Value} {Q : List (PE × Nat)} {K : List (List Value)} (h : SE q W0 v6 Q K w) {t : Nat} {x : PE × Nat} {c : List Value} (hx : Q[t]? = some x) (hc : K[t]? = some c) {g o cap : Nat} (hv : x.1.vl = .slice (some ⟨g, o, none⟩) x.1.fs.length cap) (j : Nat) (v : Value) : SE q W0 v6 Q (K.set t (c.set j v)) (w.setCell ⟨g, o + j, none⟩ v) := by
  have hxm := List.mem_of_getElem? hx
  have hg : x.2 = g := by have := (h.bk x hxm).1; rw [hv] at this; injection this with this; exact this.symm
  have hgq := (h.bk x hxm).2.1
  have ho := h.ln t x c hx hc
  have h6 : v6.ownBlock ≠ some g := OA.nek (by decide) ho h.a6 (by rw [hv]; rfl)
  have hKt : t < K.length := (List.getElem?_eq_some_iff.1 hc).1
  refine ⟨h.old.setCell (p := ⟨g, o + j, none⟩) (by show q ≤ g; omega) v, own_keep h.a6 (fun g' hg' => heap_setCell_other _ _ _ _ (fun e => h6 (hg'.trans (congrArg some e)))), h.bk, fun t' x' c' hx' hc' => ?_, by rw [List.length_set]; exact h.kl, h.nd, by have := h.sz; simpa using this⟩
  by_cases ht : t' = t
  · subst ht
    rw [hx] at hx'
    injection hx' with hx'
    subst hx'
    rw [List.getElem?_set_self hKt] at hc'
    injection hc' with hc'
    subst hc'
    rw [hv] at ho ⊢
    exact ho.set1 j v
  · rw [List.getElem?_set_ne (fun e => ht e.symm)] at hc'
    refine (h.ln t' x' c' hx' hc').keep (fun g' hg' => heap_setCell_other _ _ _ _ (fun e => ht ?_))
    have e2 : x'.2 = x.2 := by
      have := (h.bk x' (List.mem_of_getElem? hx')).1
      rw [hg'] at this
      injection this with this
      subst e
      rw [hg, this]
    refine (List.getElem?_inj (by rw [List.length_map]; exact (List.getElem?_eq_some_iff.1 hx').1) h.nd).1 ?_
    rw [List.getElem?_map, List.getElem?_map, hx, hx']
    simp [e2]
theorem SE.at6 {q : Nat} {W0 w : World} {a6 : Option Addr} {n k6 : Nat} {Q : List (PE × Nat)} {K : List (List Value)} (h : SE q W0 (.slice a6 n k6) Q K w) {i : Nat} {x : PE × Nat} (hx : Q[i]? = some x) : ∃ g6, a6 = some ⟨g6, 0, none⟩ ∧ w.cell? ⟨g6, i * 4 + 3, none⟩ = some x.1.vl := by
  obtain ⟨g, e, _, h3⟩ := (own_cell h.a6).2 (i * 4 + 3) _ ((qcs_at Q hx (by decide)).trans rfl)
  exact ⟨g, e, h3⟩
def lv (t : Nat) : List Value := [.int .i64 (50 + (t : Int)), .slice none 0 0]
theorem take2 {c : List Value} {k : Nat} (a b : Value) (h : k * 2 + 1 < c.length) : ((c.set (k * 2) a).set (k * 2 + 1) b).take ((k + 1) * 2) = c.take (k * 2) ++ [a, b] := by
  rw [show (k + 1) * 2 = k * 2 + 1 + 1 by omega, List.take_add_one, List.take_add_one, List.getElem?_set_self (by rw [List.length_set]; exact h), List.take_set, List.set_eq_of_length_le (by simp; omega), List.take_set, List.set_eq_of_length_le (by simp; omega), List.getElem?_set_ne (by omega), List.getElem?_set_self (by omega)]
  simp
theorem rp_len (n : Nat) {c : List Value} {k : Nat} (h : c.length = k) : (rp n c).length = n * k := by
  induction n with
  | zero => simp [rp]
  | succ n ih => rw [rp_succ, List.length_append, ih, h, Nat.add_mul, Nat.one_mul]
theorem rp_add (n m : Nat) (c : List Value) : rp n c ++ rp m c = rp (n + m) c := by
  induction m with
  | zero => simp [rp]
  | succ m ih => rw [← Nat.add_assoc, rp_succ, rp_succ, ← List.append_assoc, ih]
def UL (Q : List (PE × Nat)) : List (Value × Nat × List Value) := Q.mapIdx fun t x => (x.1.vl, x.1.fs.length, rp x.1.fs.length (lv t))
def nwL (t : Nat) : List Value := rp 9 (lv t)
theorem UL_at {Q : List (PE × Nat)} {i : Nat} {x : PE × Nat} (hx : Q[i]? = some x) : (UL Q)[i]? = some (x.1.vl, x.1.fs.length, rp x.1.fs.length (lv i)) := by rw [UL, List.getElem?_mapIdx, hx]; rfl
theorem UL_of {Q : List (PE × Nat)} {i : Nat} {u : Value × Nat × List Value} (hu : (UL Q)[i]? = some u) : ∃ x, Q[i]? = some x ∧ u = (x.1.vl, x.1.fs.length, rp x.1.fs.length (lv i)) := by
  rw [UL, List.getElem?_mapIdx] at hu
  obtain ⟨x, hx, rfl⟩ := Option.map_eq_some_iff.1 hu
  exact ⟨x, hx, rfl⟩
theorem SE.mv {q : Nat} {W0 w : World} {v6 : Value} {Q : List (PE × Nat)} {K : List (List Value)} (h : SE q W0 v6 Q K w) (hK : ∀ (t : Nat) x c, Q[t]? = some x → K[t]? = some c → c = rp x.1.fs.length (lv t)) : MV (q + 1) 36 2 w.heap.size w (UL Q) nwL 27 (.slice none 0 0) [] w := by
  refine MV.start h.sz (fun u hu => ?_) (fun s t u u' g hs ht hg hg' => ?_)
  · obtain ⟨i, hi⟩ := List.getElem?_of_mem hu
    obtain ⟨x, hx, rfl⟩ := UL_of hi
    have hiK : i < K.length := by rw [h.kl]; exact (List.getElem?_eq_some_iff.1 hx).1
    obtain ⟨c, hc⟩ : ∃ c, K[i]? = some c := ⟨_, List.getElem?_eq_getElem hiK⟩
    have ho := h.ln i x c hx hc
    rw [hK i x c hx hc] at ho
    refine ⟨ho, fun g hg => ?_⟩
    have := h.bk x (List.mem_of_getElem? hx)
    simp only at hg
    rw [hg] at this
    have h1 := this.1
    injection h1 with h1
    omega
  · obtain ⟨x, hx, rfl⟩ := UL_of hs
    obtain ⟨x', hx', rfl⟩ := UL_of ht
    have h1 := (h.bk x (List.mem_of_getElem? hx)).1
    have h2 := (h.bk x' (List.mem_of_getElem? hx')).1
    simp only at hg hg'
    rw [hg] at h1
    rw [hg'] at h2
    injection h1 with h1
    injection h2 with h2
    refine (List.getElem?_inj (by rw [List.length_map]; exact (List.getElem?_eq_some_iff.1 hx).1) h.nd).1 ?_
    rw [List.getElem?_map, List.getElem?_map, hx, hx']
    simp [← h1, ← h2]
theorem MV.at6 {q : Nat} {W0 wG w : World} {a6 : Option Addr} {n k6 : Nat} {v24 : Value} {Y : List Value} {nw : Nat → List Value} {e24 : TypeId} {Q : List (PE × Nat)} {K : List (List Value)} (hm : MV (q + 1) 36 2 wG.heap.size wG (UL Q) nw e24 v24 Y w) (h : SE q W0 (.slice a6 n k6) Q K wG) (hK : ∀ (t : Nat) x c, Q[t]? = some x → K[t]? = some c → c = rp x.1.fs.length (lv t)) {i : Nat} {x : PE × Nat} (hx : Q[i]? = some x) : ∃ g6, a6 = some ⟨g6, 0, none⟩ ∧ w.cell? ⟨g6, i * 4 + 3, none⟩ = some x.1.vl := by
  have ho := own_keep (w' := w) h.a6 (fun g hg => hm.st g (h.a6.lt g hg).2 (fun u hu e => by
    obtain ⟨i, hi⟩ := List.getElem?_of_mem hu
    exact OA.nek (by decide) ((SE.mv h hK).us i u hi) h.a6 e hg))
  obtain ⟨g, e, _, h3⟩ := (own_cell ho).2 (i * 4 + 3) _ ((qcs_at Q hx (by decide)).trans rfl)
  exact ⟨g, e, h3⟩
/-- one append more to a list of lines -/
theorem LR.line {q n j : Nat} {wi y : World} {u l : Value} {cs : List Value} {t : Nat} (h : LR q 36 2 wi u n cs l j (rp j (lv t)) y) (hn : n ≤ 24) (hj : j < 9) :
    ∀ ty, ∃ v' w', (Builtin.append_ #[27, 27] ty #[l, .slice (some ⟨y.heap.size, 0, none⟩) 1 1]).run Tryd.prog (y.alloc (.cells #[.int .i64 (50 + (t : Int)), .slice none 0 0] 36)) = .ok v' w' ∧ LR q 36 2 wi u n cs v' (j + 1) (rp (j + 1) (lv t)) w' := fun ty => by
  have h1 := h.below ((Below.refl _ y).alloc (Nat.le_refl _) (.cells #[.int .i64 (50 + (t : Int)), .slice none 0 0] 36))
  obtain ⟨v', w', hr, ho, ha⟩ := oa_app Tryd.underlying27 parts_line rfl (by decide) h1.hl (news := lv t) (heap_alloc_new y _) rfl (fun u hu => by simp [lv] at hu; rcases hu with rfl | rfl <;> rfl) (by omega) (by omega) ty
  refine ⟨v', w', hr, ?_⟩
  rw [rp_succ]
  exact h1.app ho ha
theorem parts_lines : (Tryd.prog.info? 27).map (fun i => (i.zero, i.size, i.bytes)) = some (some (.slice none 0 0), 1, 24) := by kernel_rfl
/-- what the t-th longer list and the t-th lines hold -/
theorem MV.rdL {q n : Nat} {W0 wG w : World} {a6 a24 : Option Addr} {k6 k24 : Nat} {Q : List (PE × Nat)} {K : List (List Value)} {Y : List Value} (h : MV (q + 1) 36 2 wG.heap.size wG (UL Q) nwL 27 (.slice a24 n k24) Y w) (hs : SE q W0 (.slice a6 n k6) Q K wG) (hK : ∀ (t : Nat) x c, Q[t]? = some x → K[t]? = some c → c = rp x.1.fs.length (lv t)) (hY : Y.length = n)
    {t : Nat} {x : PE × Nat} (hx : Q[t]? = some x) (ht : t < n) :
    ∃ g24 g6 gy oy ny cy zu L lu, a24 = some ⟨g24, 0, none⟩ ∧ a6 = some ⟨g6, 0, none⟩ ∧ ny = L + 9 ∧ L ≤ 24 ∧ w.cell? ⟨g24, t, none⟩ = some (.slice (some ⟨gy, oy, none⟩) ny cy) ∧ w.cell? ⟨g6, t * 4 + 3, none⟩ = some (.slice zu L lu) ∧
      (∀ k, k < ny → w.cell? ⟨gy, oy + k * 2, none⟩ = some (.int .i64 (50 + (t : Int)))) ∧ (∀ k, k < L → ∃ gu ou, zu = some ⟨gu, ou, none⟩ ∧ w.cell? ⟨gu, ou + k * 2, none⟩ = some (.int .i64 (50 + (t : Int)))) := by
  have htY : t < Y.length := by rw [hY]; exact ht
  obtain ⟨y, hy⟩ : ∃ y, Y[t]? = some y := ⟨_, List.getElem?_eq_getElem htY⟩
  obtain ⟨g6, e6, c6⟩ := h.at6 hs hK hx
  obtain ⟨g24, e24, _, c24⟩ := (own_cell h.l16).2 t y hy
  have hui := UL_at hx
  have hou := h.us t _ hui
  have hoy := (h.ys t _ y hui hy).1
  simp only at hou hoy
  rw [nwL, rp_add] at hoy
  have hat : ∀ (N k : Nat), k < N → (rp N (lv t))[k * 2]? = some (.int .i64 (50 + (t : Int))) := fun N k hk => rp_at (j := 0) (k := 2) (c := lv t) rfl N (a := k) (b := 0) hk (by decide) rfl
  obtain ⟨zu, lu, hu⟩ := hou.sl
  obtain ⟨zy, ly, hyv⟩ := hoy.sl
  rw [hu] at hou c6
  rw [hyv] at hoy c24
  have hy0 := hoy.cell (j := 0) (u := .int .i64 (50 + (t : Int))) (by simpa using hat (x.1.fs.length + 9) 0 (by omega))
  obtain ⟨_, gy, oy, ey, _, _⟩ := hy0
  subst ey
  refine ⟨g24, g6, gy, oy, _, ly, zu, _, lu, e24, e6, rfl, (hs.bk x (List.mem_of_getElem? hx)).2.2, c24, c6, fun k hk => ?_, fun k hk => ?_⟩
  · obtain ⟨_, g', o', e', hc, _⟩ := hoy.cell (hat _ k hk)
    injection e' with e'
    injection e' with e1 e2
    subst e1 e2
    exact hc
  · obtain ⟨_, g', o', e', hc, _⟩ := hou.cell (hat _ k hk)
    exact ⟨g', o', e', hc⟩
end Go.Proofs.YtchnkpgkckadmabDoor
