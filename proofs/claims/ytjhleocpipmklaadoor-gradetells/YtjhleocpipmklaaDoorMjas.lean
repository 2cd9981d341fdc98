import Derived.Test.YtjhleocpipmklaaDoorMjar
import Derived.Test.YtjhleocpipmklaaDoorMjak
import Derived.Test.YtjhleocpipmklaaDoorMjal
/- a drawn region whose last operation writes what the region reads: S holds behind every operation but number m, which waits for what is read; of no dump -/
namespace Go.Pin
open Go.RowKit
section
variable {P : Program} {ops : Array Oper} {Q : Exit → Act → World → Prop} {S : World → Prop} {m : Nat}
def wpL (P : Program) (ops : Array Oper) (Q : Exit → Act → World → Prop) (S : World → Prop) (m : Nat) : Nat → Array Bool → Act → World → Prop
  | 0, l, a, w => Region.ready .any ops l = [] ∧ Q .normal a w
  | n + 1, l, a, w => (Region.ready .any ops l = [] → Q .normal a w) ∧ ∀ j ∈ Region.ready .any ops l, wpOp P ops Q j (fun a' w' => (j = m ∨ S w') ∧ wpL P ops Q S m n (l.setIfInBounds j true) a' w') a w
theorem wpL_any (n : Nat) : ∀ (l : Array Bool) (a : Act) (w : World), wpL P ops Q S m n l a w → wpAny P .any ops Q n l a w := by
  induction n with
  | zero => exact fun _ _ _ h => h
  | succ n ih => exact fun l a w h => ⟨h.1, fun j hj => wpOp_mono (fun a' w' k => ih _ _ _ k.2) (h.2 j hj)⟩
theorem wpL_first {i : Nat} {oi om : Oper} {v : Value} (hi : ops[i]? = some oi) (hsel : ∀ (j : Nat) (o : Oper) cs b, ops[j]? = some o → o.op ≠ .select cs b) (hQ : ∀ c a w, Q (.panic c) (a.put oi.dst v) w → Q (.panic c) a w)
    (hm : ops[m]? = some om) (hwait : ∃ e ∈ om.after, Region.binds .any e = true ∧ e.on = i) (n : Nat) : ∀ (l : Array Bool) (a : Act) (w : World),
      (∀ j oj, ops[j]? = some oj → j ≠ i → l.getD j true = false → (∀ e ∈ oj.after, Region.binds .any e = true → e.on ≠ i) → oi.apart ops oj = true) →
      i ∈ Region.ready .any ops l → YieldsIf P ops S oi v a → S w → wpL P ops Q S m n (l.setIfInBounds i true) (a.put oi.dst v) w → wpL P ops Q S m (n + 1) l a w := by
  induction n with
  | zero =>
    intro l a w _ hr hy hS H
    refine ⟨fun h => (by rw [h] at hr; cases hr), fun j hj => ?_⟩
    by_cases e : j = i
    · rw [e]; exact hy.wpOp hi hS ⟨.inr hS, H⟩
    · have := ready_mono hj e
      rw [H.1] at this
      cases this
  | succ n ih =>
    intro l a w hfree hr hy hS H
    refine ⟨fun h => (by rw [h] at hr; cases hr), fun j hj => ?_⟩
    by_cases e : j = i
    · rw [e]; exact hy.wpOp hi hS ⟨.inr hS, H⟩
    · obtain ⟨hun, oj, hoj, hall⟩ := mem_ready.1 hj
      have hno : ∀ x ∈ oj.after, Region.binds .any x = true → x.on ≠ i := fun x hx hb he => by
        have h1 := hall x hx hb
        have h0 := (mem_ready.1 hr).1
        rw [he] at h1
        by_cases hl : i < l.size
        · simp [hl] at h0 h1
          rw [h0] at h1
          cases h1
        · simp [Array.getElem?_eq_none (Nat.le_of_not_lt hl)] at h1
      have hjm : j ≠ m := fun hjm => by
        rw [hjm, hm] at hoj
        injection hoj with hoj
        obtain ⟨x, hx, hb, he⟩ := hwait
        exact hno x (hoj ▸ hx) hb he
      have h2 := wpOp_putIf hoj (hfree j oj hoj e hun hno) (fun cs b => hsel i oi cs b hi) (fun cs b => hsel j oj cs b hoj) hQ hy (H.2 j (ready_mono hj e))
      refine wpOp_mono (fun a' w' k => ?_) h2
      have hS' : S w' := k.2.1.resolve_left hjm
      refine ⟨.inr hS', ih (l.setIfInBounds j true) a' w' (fun t ot ht hti hut hnt => hfree t ot ht hti ?_ hnt) (ready_mono hr (Ne.symm e)) k.1 hS' ?_⟩
      · by_cases hjt : j = t
        · rw [← hjt]; exact hun
        · rw [getD_set_ne true hjt] at hut; exact hut
      · rw [Array.setIfInBounds_comm _ _ e]
        exact k.2.2
theorem wp_region_L (S : World → Prop) (m n : Nat) {id : Nat} {a : Act} {w : World} (hn : ops.size = n) (hm : P.follows .mixedOrders = true) (hC : S w.drew)
    (h : ∀ (X : Type) (f : X → World), Nonempty X → (∀ x, S (f x)) → Hid (∀ Y, S Y → ∃ x, Y = f x) → wpL P ops Q S m n (Array.replicate n false) a w.drew) : (Code.region id ops true).wp P Q a w := by
  have := h {w // S w} Subtype.val ⟨⟨_, hC⟩⟩ (fun x => x.2) (fun Y hY => ⟨⟨Y, hY⟩, rfl⟩)
  subst hn
  exact wp_region_any hm (wpL_any _ _ _ _ this)
variable {fuel : Nat} {listed : Array Bool} {a : Act} {w : World}
theorem takeL {X : Type} {f : X → World} (i : Nat) {o om : Oper} (hi : ops[i]? = some o) (hm : ops[m]? = some om) (hwt : (om.after.any fun e => Region.binds .any e && e.on == i) = true) (hs : Region.noSelect ops = true) (hf : Region.free .any ops listed i = true) (hr : (Region.ready .any ops listed).contains i = true)
    (hp : plainB o.op = true) (hQ : ∀ c (a : Act) d v w, Q (.panic c) (a.put d v) w → Q (.panic c) a w) (hS : S w) (hC : ∀ Y, S Y → ∃ x, Y = f x) (hw : Region.wanted o (yielded ops a.tmps) = true)
    (h : ∀ K : Act → Prop, (∀ a', wpL P ops Q S m fuel (listed.setIfInBounds i true) a' w → K a') → o.quiet P a (fun w' => ∃ x, w' = f x) K) : wpL P ops Q S m (fuel + 1) listed a w := by
  obtain ⟨v, h1, h2⟩ := h _ (fun _ h => h)
  have hwait : ∃ e ∈ om.after, Region.binds .any e = true ∧ e.on = i := by
    obtain ⟨k, hk, e⟩ := Array.any_eq_true.1 hwt
    rw [Bool.and_eq_true] at e
    exact ⟨_, Array.getElem_mem hk, e.1, by simpa using e.2⟩
  refine wpL_first hi (Region.noSelect_spec hs) (fun _ _ _ h => hQ _ _ _ _ _ h) hm hwait fuel listed a w (Region.free_spec hi hf) (by simpa using hr) (.inl ⟨hw, fun w hw => ?_⟩) hS h2
  have := h1 w (hC w hw)
  unfold Oper.quietAt at this
  cases e : (execOp a.eval o).run P w with
  | ok n w' =>
    obtain ⟨u, rfl⟩ := plain_ok hp e
    rw [e] at this
    obtain ⟨rfl, rfl⟩ := this
    rfl
  | halt x w' => rw [e] at this; exact this.elim
theorem skipL (i : Nat) {o om : Oper} (hi : ops[i]? = some o) (hm : ops[m]? = some om) (hwt : (om.after.any fun e => Region.binds .any e && e.on == i) = true) (hs : Region.noSelect ops = true) (hf : Region.free .any ops listed i = true) (hr : (Region.ready .any ops listed).contains i = true)
    (hQ : ∀ c (a : Act) d v w, Q (.panic c) (a.put d v) w → Q (.panic c) a w) (hS : S w) (hw : Region.wanted o (yielded ops a.tmps) = false)
    (h : wpL P ops Q S m fuel (listed.setIfInBounds i true) (a.put o.dst undef) w) : wpL P ops Q S m (fuel + 1) listed a w := by
  have hwait : ∃ e ∈ om.after, Region.binds .any e = true ∧ e.on = i := by
    obtain ⟨k, hk, e⟩ := Array.any_eq_true.1 hwt
    rw [Bool.and_eq_true] at e
    exact ⟨_, Array.getElem_mem hk, e.1, by simpa using e.2⟩
  exact wpL_first hi (Region.noSelect_spec hs) (fun _ _ _ h => hQ _ _ _ _ _ h) hm hwait fuel listed a w (Region.free_spec hi hf) (by simpa using hr) (.inr ⟨hw, rfl⟩) hS h
theorem readyL (i : Nat) {o : Oper} (hi : ops[i]? = some o) (hr : Region.ready .any ops listed = [i]) (hw : Region.wanted o (yielded ops a.tmps) = true)
    (h : ∀ K : Act → World → Prop, (∀ a' w', i = m ∨ S w' → wpL P ops Q S m fuel (listed.setIfInBounds i true) a' w' → K a' w') → Oper.wp P o a w K Q) : wpL P ops Q S m (fuel + 1) listed a w := by
  refine ⟨fun h0 => (by rw [hr] at h0; cases h0), fun j hj => ?_⟩
  rw [hr] at hj
  obtain rfl : j = i := by simpa using hj
  refine wpOp_step hi (fun K hK => ?_)
  rw [if_pos hw]
  exact h K (fun a' w' h1 h2 => hK a' w' ⟨h1, h2⟩)
theorem wpL_done (hr : Region.ready .any ops listed = []) (h : Q .normal a w) : wpL P ops Q S m fuel listed a w := by
  cases fuel with
  | zero => exact ⟨hr, h⟩
  | succ n => exact ⟨fun _ => h, by rw [hr]; simp⟩
end
end Go.Pin
namespace Go.Proofs.YtjhleocpipmklaaDoor
set_option linter.unusedSimpArgs false
set_option linter.unusedVariables false
set_option maxRecDepth 100000
open Go.ChangeShapes Go.WideShapes Go.ChangeAt Go.RowKit Go.Pin Go.Pat
theorem wpSkpU {P : Program} {o : Oper} {a : Act} {w w' : World} {d : Option Nat} {K : Act → World → Prop} {Q : Exit → Act → World → Prop} (hd : o.dst = d) (hrun : (execOp a.eval o).run P w = .ok .skip w') (h : K (a.put d undef) w') : Oper.wp P o a w K Q := by
  subst hd
  unfold Oper.wp
  rw [hrun]
  exact h
theorem takeV {P : Program} {ops : Array Oper} {Q : Exit → Act → World → Prop} {S : World → Prop} {fuel : Nat} {listed : Array Bool} {a : Act} {w : World} (i : Nat) (v : Value) {o : Oper} (hi : ops[i]? = some o) (hs : Region.noSelect ops = true) (hf : Region.free .any ops listed i = true) (hr : (Region.ready .any ops listed).contains i = true)
    (hQ : ∀ c (a : Act) d v w, Q (.panic c) (a.put d v) w → Q (.panic c) a w) (hS : S w) (hw : Region.wanted o (yielded ops a.tmps) = true)
    (hrun : ∀ w, S w → (execOp a.eval o).run P w = .ok (.value v) w) (h : wpAnyH P .any ops Q S fuel (listed.setIfInBounds i true) (a.put o.dst v) w) : wpAnyH P .any ops Q S (fuel + 1) listed a w :=
  wpAnyH_take hi hs hf hr (fun _ _ _ h => hQ _ _ _ _ _ h) (.inl ⟨hw, hrun⟩) hS h
theorem takeLV {P : Program} {ops : Array Oper} {Q : Exit → Act → World → Prop} {S : World → Prop} {m fuel : Nat} {listed : Array Bool} {a : Act} {w : World} (i : Nat) (v : Value) {o om : Oper} (hi : ops[i]? = some o) (hm : ops[m]? = some om) (hwt : (om.after.any fun e => Region.binds .any e && e.on == i) = true) (hs : Region.noSelect ops = true) (hf : Region.free .any ops listed i = true) (hr : (Region.ready .any ops listed).contains i = true)
    (hQ : ∀ c (a : Act) d v w, Q (.panic c) (a.put d v) w → Q (.panic c) a w) (hS : S w) (hw : Region.wanted o (yielded ops a.tmps) = true)
    (hrun : ∀ w, S w → (execOp a.eval o).run P w = .ok (.value v) w) (h : Go.Pin.wpL P ops Q S m fuel (listed.setIfInBounds i true) (a.put o.dst v) w) : Go.Pin.wpL P ops Q S m (fuel + 1) listed a w := by
  have hwait : ∃ e ∈ om.after, Region.binds .any e = true ∧ e.on = i := by
    obtain ⟨k, hk, e⟩ := Array.any_eq_true.1 hwt
    rw [Bool.and_eq_true] at e
    exact ⟨_, Array.getElem_mem hk, e.1, by simpa using e.2⟩
  exact Go.Pin.wpL_first hi (Region.noSelect_spec hs) (fun _ _ _ h => hQ _ _ _ _ _ h) hm hwait fuel listed a w (Region.free_spec hi hf) (by simpa using hr) (.inl ⟨hw, hrun⟩) hS h
abbrev tkv (b : Nat) (ts : List Int) : Value := .slice (some ⟨b, 0, none⟩) ts.length (ts.length + 9)
abbrev whv (b : Nat) (ts : List Int) : Value := .slice (some ⟨b, 0, none⟩) (ts.length + 9) (ts.length + 9)
def lfw (L : List Ln) (B : List Nat) : List (Int × Value) := List.zipWith (fun l b => (l.1, tkv b l.2)) L B
def twv (L : List Ln) (B : List Nat) : List Value := List.zipWith (fun l b => whv b l.2) L B
def lmw (L : List Ln) (B : List Nat) : List (Nat × List Int) := List.zipWith (fun l b => (b, l.2)) L B
def lcw (fs : List (Int × Value)) : List Value := fs.flatMap fun g => [.int .i64 g.1, g.2]
theorem lcw_length (l : List (Int × Value)) : (lcw l).length = l.length * 2 := by
  induction l with
  | nil => rfl
  | cons g r ih => simp [lcw] at ih ⊢; omega
theorem lcw_snoc (l : List (Int × Value)) (g : Int × Value) : lcw (l ++ [g]) = lcw l ++ [.int .i64 g.1, g.2] := by simp [lcw]
theorem takeW (L : List Ln) {i : Nat} (h : i < L.length) : L.take (i + 1) = L.take i ++ [L.getD i (0, [])] := by
  rw [List.take_add_one, List.getElem?_eq_getElem h]; simp [List.getD, h]
theorem zipW {α : Type} (f : Ln → Nat → α) (L : List Ln) {i : Nat} {B : List Nat} (h : i < L.length) (hB : B.length = i) (b : Nat) : List.zipWith f (L.take (i + 1)) (B ++ [b]) = List.zipWith f (L.take i) B ++ [f (L.getD i (0, [])) b] := by
  rw [takeW L h, List.zipWith_append (by rw [List.length_take]; omega)]
  rfl
/-- an owned list, when another block is written -/
theorem own_blk {w : World} {b : Nat} {e : TypeId} {k n : Nat} {v : Value} {xs : List Value} (h : w.ownsRow b e k v n xs) {g : Nat} (hv : v.ownBlock = some g) : b ≤ g ∧ ∃ cur, w.heap[g]? = some (.cells cur e) := by
  rcases h.2 with ⟨rfl, _⟩ | ⟨g', cap, cur, rfl, h1, h2, _⟩
  · cases hv
  · injection hv with hv
    have hv' : g' = g := hv
    subst hv'
    exact ⟨h1, cur, h2⟩
theorem cells_type {w : World} {g : Nat} {c d : Array Value} {t u : TypeId} (h1 : w.heap[g]? = some (.cells c t)) (h2 : w.heap[g]? = some (.cells d u)) : t = u := by
  rw [h1] at h2
  injection h2 with h2
  injection h2 with _ h2
/-- twin's boxes and its blocks of numbers -/
structure TwS (q t : Nat) (W : World) (nm : ByteArray) (v0 v1 vl : Value) (cs : List Value) (es : List (Nat × List Int)) (w : World) : Prop where
  pb : PB q W nm v0 v1 vl w
  qt : q < t
  bx : w.heap[t]? = some (.cells cs.toArray 37)
  eb : ∀ e ∈ es, RwB e.1 (rm e.2) w
  nd : (es.map (·.1)).Nodup
  gt : ∀ e ∈ es, t < e.1
section
variable {q t : Nat} {W : World} {nm : ByteArray} {v0 v1 vl : Value} {cs : List Value} {es : List (Nat × List Int)} {w w' : World}
theorem TwS.lt (h : TwS q t W nm v0 v1 vl cs es w) : t < w.heap.size := (Array.getElem?_eq_some_iff.1 h.bx).1
theorem TwS.keep (h : TwS q t W nm v0 v1 vl cs es w) (hb : Below q W w') (hz : q < w'.heap.size) (hk : ∀ k, k = q ∨ k = t ∨ (∃ e ∈ es, k = e.1) → w'.heap[k]? = w.heap[k]?) : TwS q t W nm v0 v1 vl cs es w' :=
  ⟨⟨hb, hz, (hk _ (.inl rfl)).trans h.pb.row⟩, h.qt, (hk _ (.inr (.inl rfl))).trans h.bx, fun e he => (h.eb e he).keep (hk _ (.inr (.inr ⟨e, he, rfl⟩))), h.nd, h.gt⟩
theorem TwS.below (h : TwS q t W nm v0 v1 vl cs es w) (hb : Below w.heap.size w w') : TwS q t W nm v0 v1 vl cs es w' :=
  ⟨h.pb.below hb, h.qt, (hb.block _ h.lt).trans h.bx, fun e he => (h.eb e he).below hb, h.nd, h.gt⟩
theorem TwS.cell (h : TwS q t W nm v0 v1 vl cs es w) {j : Nat} {x : Value} (hj : cs[j]? = some x) : w.cell? ⟨t, j, none⟩ = some x := by
  rw [cell_of_row _ _ _ _ _ _ h.bx, List.getElem?_toArray]; exact hj
theorem TwS.fz (h : TwS q t W nm v0 v1 vl cs es w) (j : Nat) : w.frozen? ⟨t, j, none⟩ = false := frozen_of_row _ _ _ _ _ h.bx
theorem TwS.set (h : TwS q t W nm v0 v1 vl cs es w) (j : Nat) (x : Value) : TwS q t W nm v0 v1 vl (cs.set j x) es (w.setCell ⟨t, j, none⟩ x) := by
  have ho : ∀ k, k ≠ t → (w.setCell ⟨t, j, none⟩ x).heap[k]? = w.heap[k]? := fun k hne => heap_setCell_other _ _ _ _ hne
  have hq := h.qt
  refine ⟨⟨h.pb.old.setCell (p := ⟨t, j, none⟩) (by show q ≤ t; omega) _, by rw [World.size_setCell]; exact h.pb.lt, (ho _ (by omega)).trans h.pb.row⟩, h.qt, ?_, fun e he => (h.eb e he).keep (ho _ (by have := h.gt e he; omega)), h.nd, h.gt⟩
  rw [heap_setCell_same _ _ _ _ _ _ h.bx]
  simp
theorem TwS.add (h : TwS q t W nm v0 v1 vl cs es w) {b : Nat} {C : List Int} (hr : RwB b (rm C) w) (hn : ∀ e ∈ es, e.1 < b) (ht : t < b) : TwS q t W nm v0 v1 vl cs (es ++ [(b, C)]) w := by
  refine ⟨h.pb, h.qt, h.bx, fun e he => ?_, ?_, fun e he => ?_⟩
  · rcases List.mem_append.1 he with he | he
    · exact h.eb e he
    · obtain rfl : e = (b, C) := by simpa using he
      exact hr
  · rw [List.map_append, List.map_cons, List.map_nil]
    refine List.nodup_append.2 ⟨h.nd, by simp, fun a ha c hc => ?_⟩
    obtain ⟨e, he, rfl⟩ := List.mem_map.1 ha
    obtain rfl : c = b := by simpa using hc
    have := hn e he
    omega
  · rcases List.mem_append.1 he with he | he
    · exact h.gt e he
    · obtain rfl : e = (b, C) := by simpa using he
      exact ht
/-- a block of another type grows -/
theorem TwS.grown (h : TwS q t W nm v0 v1 vl cs es w) {row : Option Nat} (hg : w.grownBy w' row) {T : TypeId} (hT : T ≠ 3) (hr : ∀ g, row = some g → t < g ∧ ∃ cur, w.heap[g]? = some (.cells cur T)) : TwS q t W nm v0 v1 vl cs es w' := by
  have hq := h.qt
  have hbl : ∀ k, k < w.heap.size → row ≠ some k → w'.heap[k]? = w.heap[k]? := fun k hk hne => hg.block k hk (fun e => hne e.symm)
  refine h.keep (h.pb.old.grown hg (Nat.le_of_lt h.pb.lt) (fun k hk => by have := (hr k hk).1; omega)) (Nat.lt_of_lt_of_le h.pb.lt hg.size) (fun k hk => ?_)
  rcases hk with rfl | rfl | ⟨e, he, rfl⟩
  · exact hbl _ h.pb.lt (fun e => by have := (hr _ e).1; omega)
  · exact hbl _ h.lt (fun e => by have := (hr _ e).1; omega)
  · refine hbl _ (h.eb e he).lt (fun e' => ?_)
    obtain ⟨_, cur, hc⟩ := hr _ e'
    exact (h.eb e he).ne hc hT rfl
end
theorem parts_sl : (Tryd.prog.info? 22).map (fun i => (i.zero, i.size, i.bytes)) = some (some (.slice none 0 0), 1, 24) := by kernel_rfl
theorem parts_ln : (Tryd.prog.info? 43).map (fun i => (i.zero, i.size, i.bytes)) = some (some (.agg #[.int .i64 0, .slice none 0 0]), 2, 32) := by kernel_rfl
/-- an append of m -/
theorem own_appM {t e : TypeId} {z : Value} {k by_ : Nat} (hU : Tryd.prog.underlying t = some (.slice e)) (hI : (Tryd.prog.info? e).map (fun i => (i.zero, i.size, i.bytes)) = some (some z, k, by_)) (hz : z.cells.size = k) (hk : 0 < k)
    {w : World} {b : Nat} {v : Value} {n : Nat} {xs : List Value} (hown : w.ownsRow b e k v n xs) {a m : Nat} {news : List Value} {t' : TypeId} {fr : Nat × Nat} (hc : w.heap[a]? = some (.cells news.toArray t' fr)) (hl : news.length = m * k) (h1 : ∀ u ∈ news, u.oneCell' = true) (hn : (n + m) * by_ ≤ 140737488355328) (hn2 : n + m ≤ 140737488355328) (hb : b ≤ w.heap.size) :
    ∀ ty, ∃ v' w', (Builtin.append_ #[t, t] ty #[v, .slice (some ⟨a, 0, none⟩) m m]).run Tryd.prog w = .ok v' w' ∧ (w'.ownsRow b e k v' (n + m) (xs ++ news) ∧ w.grownBy w' v.ownBlock) := fun ty => by
  obtain ⟨i, i1, hz'⟩ := Option.map_eq_some_iff.1 hI
  simp only [Prod.mk.injEq] at hz'
  obtain ⟨i2, i3, i4⟩ := hz'
  obtain ⟨v', w', hr, h2, h3, _, h5⟩ := run_append_own_at (P := Tryd.prog) w b t ty e i z k by_ hU i1 i2 i3 i4 hz hk v n xs hown ⟨a, 0, none⟩ m m news hl (fun j u hu => by
    rw [add_mid, Nat.zero_add, cell_of_row _ _ _ _ _ _ hc, ← hu]; simp) h1 (by unfold maxLen; omega) hn hb
  exact ⟨v', w', hr, h2, h3⟩
/-- both lists that grow -/
structure TwL (t : Nat) (LV TV : Value) (ls : List Value) (ts : List Value) (i k : Nat) (w : World) : Prop where
  lo : w.ownsRow (t + 1) 43 2 LV i ls
  ro : w.ownsRow (t + 1) 22 1 TV k ts
section
variable {q t : Nat} {W : World} {nm : ByteArray} {v0 v1 vl LV TV : Value} {cs ls ts : List Value} {es : List (Nat × List Int)} {w w' : World} {i k : Nat}
theorem TwL.below (h : TwL t LV TV ls ts i k w) (hb : Below w.heap.size w w') : TwL t LV TV ls ts i k w' := ⟨owns_below hb h.lo, owns_below hb h.ro⟩
theorem TwL.set (h : TwL t LV TV ls ts i k w) (j : Nat) (x : Value) : TwL t LV TV ls ts i k (w.setCell ⟨t, j, none⟩ x) :=
  ⟨own_keep h.lo (fun g hg => heap_setCell_other _ _ _ _ (by have := (own_blk h.lo hg).1; show g ≠ t; omega)), own_keep h.ro (fun g hg => heap_setCell_other _ _ _ _ (by have := (own_blk h.ro hg).1; show g ≠ t; omega))⟩
/-- a list of tokens more -/
theorem TwL.tok (s : TwS q t W nm v0 v1 vl cs es w) (h : TwL t LV TV ls ts i k w) {x : Value} (hx : x.oneCell' = true) (hk : k ≤ 1000) :
    ∀ ty, ∃ v' w', (Builtin.append_ #[35, 35] ty #[TV, .slice (some ⟨w.heap.size, 0, none⟩) 1 1]).run Tryd.prog (w.alloc (.cells #[x] 22)) = .ok v' w' ∧ (TwS q t W nm v0 v1 vl cs es w' ∧ TwL t LV v' ls (ts ++ [x]) i (k + 1) w') := fun ty => by
  have hb : Below w.heap.size w (w.alloc (.cells #[x] 22)) := (Below.refl _ _).alloc (Nat.le_refl _) _
  have s1 := s.below hb
  have h1 := h.below hb
  obtain ⟨v', w', hr, ho, hg⟩ := own_appM Tryd.underlying35 parts_sl rfl (by decide) h1.ro (m := 1) (news := [x]) (heap_alloc_new w _) rfl (fun u hu => by simp at hu; subst hu; exact hx) (by omega) (by omega) (by have := s1.lt; omega) ty
  refine ⟨v', w', hr, s1.grown hg (T := 22) (by decide) (fun g hg' => ⟨by have := (own_blk h1.ro hg').1; omega, (own_blk h1.ro hg').2⟩), own_keep h1.lo (fun g hg' => ?_), ho⟩
  obtain ⟨_, cur, hc⟩ := own_blk h1.lo hg'
  refine hg.block g (Array.getElem?_eq_some_iff.1 hc).1 (fun e => ?_)
  obtain ⟨_, cur', hc'⟩ := own_blk h1.ro e.symm
  exact absurd (cells_type hc hc') (by decide)
/-- lines more -/
theorem TwL.line (s : TwS q t W nm v0 v1 vl cs es w) (h : TwL t LV TV ls ts i k w) {m : Nat} {news : List Value} (hl : news.length = m * 2) (hx : ∀ u ∈ news, u.oneCell' = true) (hi : i ≤ 1000) (hm : m ≤ 2) :
    ∀ ty, ∃ v' w', (Builtin.append_ #[24, 24] ty #[LV, .slice (some ⟨w.heap.size, 0, none⟩) m m]).run Tryd.prog (w.alloc (.cells news.toArray 43)) = .ok v' w' ∧ (TwS q t W nm v0 v1 vl cs es w' ∧ TwL t v' TV (ls ++ news) ts (i + m) k w') := fun ty => by
  have hb : Below w.heap.size w (w.alloc (.cells news.toArray 43)) := (Below.refl _ _).alloc (Nat.le_refl _) _
  have s1 := s.below hb
  have h1 := h.below hb
  obtain ⟨v', w', hr, ho, hg⟩ := own_appM Tryd.underlying24 parts_ln rfl (by decide) h1.lo (m := m) (news := news) (heap_alloc_new w _) hl hx (by omega) (by omega) (by have := s1.lt; omega) ty
  refine ⟨v', w', hr, s1.grown hg (T := 43) (by decide) (fun g hg' => ⟨by have := (own_blk h1.lo hg').1; omega, (own_blk h1.lo hg').2⟩), ho, own_keep h1.ro (fun g hg' => ?_)⟩
  obtain ⟨_, cur, hc⟩ := own_blk h1.ro hg'
  refine hg.block g (Array.getElem?_eq_some_iff.1 hc).1 (fun e => ?_)
  obtain ⟨_, cur', hc'⟩ := own_blk h1.lo e.symm
  exact absurd (cells_type hc hc') (by decide)
end
end Go.Proofs.YtjhleocpipmklaaDoor
