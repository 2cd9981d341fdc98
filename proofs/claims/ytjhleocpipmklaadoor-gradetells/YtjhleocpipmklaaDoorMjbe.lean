import Derived.Test.YtjhleocpipmklaaDoorMjbd
namespace Go.Proofs.YtjhleocpipmklaaDoor
set_option linter.unusedSimpArgs false
set_option linter.unusedVariables false
open Go.ChangeShapes Go.WideShapes Go.ChangeAt Go.RowKit Go.Pin Go.Pat Go.Deep
theorem own_base {w : World} {b c : Nat} {e : TypeId} {k n : Nat} {v : Value} {xs : List Value} (h : w.ownsRow b e k v n xs) (hc : c ≤ b) : w.ownsRow c e k v n xs := by
  refine ⟨h.1, ?_⟩
  rcases h.2 with h1 | ⟨g, cap, cur, e1, h1, h2⟩
  · exact .inl h1
  · exact .inr ⟨g, cap, cur, e1, Nat.le_trans hc h1, h2⟩
theorem grades_same {W : World} {u v : Value} {l : List Gd} (hu : RdG W u l) (hv : RdG W v l) : Calls Tryd.prog 14 #[u, v] W fun e w' => e = .returned (.bool true) ∧ Below W.heap.size W w' := by
  have h := grades_any hu hv
  rw [show decide (l = l) = true by simp] at h
  exact h
/-- both patterns' boxes -/
structure T2 (q : Nat) (W : World) (cs ds : Array Value) (w : World) : Prop where
  old : Below q W w
  lt : q + 1 < w.heap.size
  r1 : w.heap[q]? = some (.cells cs 26)
  r2 : w.heap[q + 1]? = some (.cells ds 26)
section
variable {q : Nat} {W w w' : World} {cs ds : Array Value}
theorem T2.below (h : T2 q W cs ds w) (hb : Below w.heap.size w w') : T2 q W cs ds w' :=
  ⟨h.old.trans (hb.mono (by have := h.lt; omega)), Nat.lt_of_lt_of_le h.lt hb.size, (hb.block _ (by have := h.lt; omega)).trans h.r1, (hb.block _ h.lt).trans h.r2⟩
theorem T2.c1 (h : T2 q W cs ds w) (j : Nat) : w.cell? ⟨q, j, none⟩ = cs[j]? := cell_of_row _ _ _ _ _ _ h.r1
theorem T2.c2 (h : T2 q W cs ds w) (j : Nat) : w.cell? ⟨q + 1, j, none⟩ = ds[j]? := cell_of_row _ _ _ _ _ _ h.r2
theorem T2.fz (h : T2 q W cs ds w) (j : Nat) : w.frozen? ⟨q + 1, j, none⟩ = false := frozen_of_row _ _ _ _ _ h.r2
theorem T2.set (h : T2 q W cs ds w) (j : Nat) (x : Value) : T2 q W cs (ds.setIfInBounds j x) (w.setCell ⟨q + 1, j, none⟩ x) :=
  ⟨h.old.setCell (p := ⟨q + 1, j, none⟩) (by show q ≤ q + 1; omega) _, by rw [World.size_setCell]; exact h.lt, (heap_setCell_other _ _ _ _ (by show q ≠ q + 1; omega)).trans h.r1, heap_setCell_same _ _ _ _ _ _ h.r2⟩
/-- another block is written -/
theorem T2.other (h : T2 q W cs ds w) {b : Nat} (hb : q + 1 < b) (j : Nat) (x : Value) : T2 q W cs ds (w.setCell ⟨b, j, none⟩ x) :=
  ⟨h.old.setCell (p := ⟨b, j, none⟩) (by show q ≤ b; omega) _, by rw [World.size_setCell]; exact h.lt, (heap_setCell_other _ _ _ _ (by show q ≠ b; omega)).trans h.r1, (heap_setCell_other _ _ _ _ (by show q + 1 ≠ b; omega)).trans h.r2⟩
end
/-- an owned list of grades, when a block of another type is written -/
theorem own_set {w : World} {b : Nat} {v : Value} {n : Nat} {xs : List Value} (h : w.ownsRow b 48 3 v n xs) {r : Nat} {cs : Array Value} {T : TypeId} (hr : w.heap[r]? = some (.cells cs T)) (hT : T ≠ 48) (j : Nat) (x : Value) : (w.setCell ⟨r, j, none⟩ x).ownsRow b 48 3 v n xs :=
  own_keep h (fun g hg => heap_setCell_other _ _ _ _ (fun e => by
    obtain ⟨_, cur, hc⟩ := own_blk h hg
    have e' : g = r := e
    rw [e'] at hc
    exact hT (cells_type hr hc)))
/-- GradeTells' last loop -/
structure TN (q r : Nat) (W : World) (cs ds : Array Value) (pp : Pt) (t : Nat) (nm : ByteArray) (g0 g1 : Nat) (B : List Nat) (gl tl : Nat) (TV u3 u4 : Value) (gs : List Gd) (ns : Array Value) (NV : Value) (i : Nat) (ls : List Value) (w : World) : Prop where
  t2 : T2 q W cs ds w
  tw : TwP pp t nm g0 g1 B gl tl TV w
  o3 : w.ownsRow q 48 3 u3 gs.length (gcs gs)
  o4 : w.ownsRow q 48 3 u4 gs.length (gcs gs)
  bx : w.heap[r]? = some (.cells ns 26)
  nv : w.ownsRow (r + 1) 43 2 NV i ls
  hr : q + 1 < r ∧ gl < r
section
variable {q r : Nat} {W w w' : World} {cs ds ns : Array Value} {pp : Pt} {t : Nat} {nm : ByteArray} {g0 g1 : Nat} {B : List Nat} {gl tl : Nat} {TV u3 u4 NV : Value} {gs : List Gd} {i : Nat} {ls : List Value}
theorem TN.lt (h : TN q r W cs ds pp t nm g0 g1 B gl tl TV u3 u4 gs ns NV i ls w) : r < w.heap.size := (Array.getElem?_eq_some_iff.1 h.bx).1
theorem TN.below (h : TN q r W cs ds pp t nm g0 g1 B gl tl TV u3 u4 gs ns NV i ls w) (hb : Below w.heap.size w w') : TN q r W cs ds pp t nm g0 g1 B gl tl TV u3 u4 gs ns NV i ls w' :=
  ⟨h.t2.below hb, h.tw.below hb, owns_below hb h.o3, owns_below hb h.o4, (hb.block _ h.lt).trans h.bx, owns_below hb h.nv, h.hr⟩
theorem TN.set (h : TN q r W cs ds pp t nm g0 g1 B gl tl TV u3 u4 gs ns NV i ls w) (j : Nat) (x : Value) : TN q r W cs ds pp t nm g0 g1 B gl tl TV u3 u4 gs (ns.setIfInBounds j x) NV i ls (w.setCell ⟨r, j, none⟩ x) :=
  ⟨h.t2.other h.hr.1 j x, h.tw.typed (T := 26) (by decide) h.bx (fun k hne => heap_setCell_other _ _ _ _ hne), own_set h.o3 h.bx (by decide) j x, own_set h.o4 h.bx (by decide) j x, heap_setCell_same _ _ _ _ _ _ h.bx, own_keep h.nv (fun g hg => heap_setCell_other _ _ _ _ (by have := (own_blk h.nv hg).1; show g ≠ r; omega)), h.hr⟩
theorem TN.app (h : TN q r W cs ds pp t nm g0 g1 B gl tl TV u3 u4 gs ns NV i ls w) (hi : i ≤ 1000) {f : Int} {u : Value} (hu : u.oneCell' = true) :
    ∀ ty, ∃ v' w', (Builtin.append_ #[24, 24] ty #[NV, .slice (some ⟨w.heap.size, 0, none⟩) 1 1]).run Tryd.prog (w.alloc (.cells #[.int .i64 f, u] 43)) = .ok v' w' ∧ TN q r W cs ds pp t nm g0 g1 B gl tl TV u3 u4 gs ns v' (i + 1) (ls ++ [.int .i64 f, u]) w' := fun ty => by
  have hb : Below w.heap.size w (w.alloc (.cells #[.int .i64 f, u] 43)) := (Below.refl _ _).alloc (Nat.le_refl _) _
  have h1 := h.below hb
  obtain ⟨v', w', hr, ho, hg⟩ := own_appM Tryd.underlying24 parts_ln rfl (by decide) h1.nv (m := 1) (news := [.int .i64 f, u]) (heap_alloc_new w _) rfl (fun x hx => by simp at hx; rcases hx with rfl | rfl; rfl; exact hu) (by omega) (by omega) (by have := h1.lt; omega) ty
  have hq := h.hr.1
  have hbl : ∀ k, k < (w.alloc (.cells #[.int .i64 f, u] 43)).heap.size → (∀ g, NV.ownBlock = some g → k ≠ g) → w'.heap[k]? = (w.alloc (.cells #[.int .i64 f, u] 43)).heap[k]? := fun k hk hne => hg.block k hk (fun e => hne k e.symm rfl)
  have hty : ∀ {k : Nat} {c : Array Value} {T : TypeId}, (w.alloc (.cells #[.int .i64 f, u] 43)).heap[k]? = some (.cells c T) → T ≠ 43 → w'.heap[k]? = (w.alloc (.cells #[.int .i64 f, u] 43)).heap[k]? := fun hk hT => hbl _ (Array.getElem?_eq_some_iff.1 hk).1 (fun g hg' e => by
    obtain ⟨_, cur, hc⟩ := own_blk h1.nv hg'
    rw [e] at hk
    exact hT (cells_type hk hc))
  have hlow : ∀ k, k ≤ r → k < (w.alloc (.cells #[.int .i64 f, u] 43)).heap.size → w'.heap[k]? = (w.alloc (.cells #[.int .i64 f, u] 43)).heap[k]? := fun k hk hz => hbl k hz (fun g hg' e => by have := (own_blk h1.nv hg').1; omega)
  have ht2 := h1.t2.lt
  refine ⟨v', w', hr, ⟨h1.t2.old.grown hg (by have := h1.t2.lt; omega) (fun k hk => by have := (own_blk h1.nv hk).1; omega), Nat.lt_of_lt_of_le h1.t2.lt hg.size, (hty h1.t2.r1 (by decide)).trans h1.t2.r1, (hty h1.t2.r2 (by decide)).trans h1.t2.r2⟩, h1.tw.keep (fun k hk => ?_), own_keep h1.o3 (fun g hg' => ?_), own_keep h1.o4 (fun g hg' => ?_), (hty h1.bx (by decide)).trans h1.bx, ho, h.hr⟩
  · rcases hk with rfl | ⟨e, he, rfl⟩ | rfl | hg'
    · exact hty h1.tw.1 (by decide)
    · exact hty (h1.tw.2.1 e he) (by decide)
    · exact hlow _ (by have := h.hr.2; omega) h1.tw.lt.2.1
    · obtain ⟨_, cur, hc⟩ := own_blk h1.tw.2.2.2.2.2 hg'
      exact hty hc (by decide)
  · obtain ⟨_, cur, hc⟩ := own_blk h1.o3 hg'
    exact hty hc (by decide)
  · obtain ⟨_, cur, hc⟩ := own_blk h1.o4 hg'
    exact hty hc (by decide)
/-- the pattern that was made anew -/
theorem TN.rdp (h : TN q r W cs ds pp t nm g0 g1 B gl tl TV u3 u4 gs ns NV i ls w) (hi : i = pp.ln.length) (hls : ls = lcw (lfw pp.ln B)) (hs : pp.ln.length ≤ 200 ∧ ∀ i, i < pp.ln.length → (pp.ln.getD i (0, [])).2.length ≤ 200) {v0 v1 : Value} (h0 : RdN w v0 pp.b0) (h1 : RdN w v1 pp.b1) (hnm : pp.nm = nm) : RdP w (.agg #[.string nm, v0, v1, NV]) pp := by
  subst hls hi
  obtain ⟨a, c, rfl⟩ := own_slice' h.nv
  have hB := h.tw.2.2.2.1
  have hc := (own_cell h.nv).2
  have hcap : pp.ln.length ≤ c := by
    rcases h.nv.2 with ⟨e, h0⟩ | ⟨g, cp, cur, e, _, _, h3, _⟩
    · injection e with _ _ e; omega
    · injection e with _ _ e; omega
  refine ⟨_, _, _, by rw [hnm], h0, h1, ⟨_, _, rfl, hcap, by omega, fun j hj => ?_⟩⟩
  have hjB : j < B.length := by omega
  have hl := lcw_at (lfw pp.ln B) j (by simp [lfw, hB]; omega)
  have hgd : (lfw pp.ln B).getD j (0, undef) = ((pp.ln.getD j (0, [])).1, tkv (B.getD j 0) (pp.ln.getD j (0, [])).2) := by
    simp [List.getD, lfw, List.getElem?_zipWith, hj, hjB]
  rw [hgd] at hl
  obtain ⟨g, e, _, c0⟩ := hc _ _ hl.1
  obtain ⟨g', e', _, c1⟩ := hc _ _ hl.2
  rw [e] at e'
  injection e' with e'
  injection e' with e'
  subst e'
  exact ⟨g, 0, _, e, by rw [Nat.zero_add]; exact c0, by rw [Nat.zero_add]; exact c1, (h.tw.rw hj).rd (fun i hi => rm_lo hi) (by rw [rm_len]; omega) (by have := hs.2 j hj; omega) (by omega)⟩
end
end Go.Proofs.YtjhleocpipmklaaDoor
