import Derived.Test.YtfkbgodfcnmepaaDoorRows
import Derived.Maps.AppendAt
import Derived.Laws.LoneSync
import Derived.Laws.IdiomCopy
import Derived.Test.YtfkbgodfcnmepaaDoorDmaa
import Derived.Test.YtfkbgodfcnmepaaDoorDmab
import Derived.Test.YtfkbgodfcnmepaaDoorDmad
import Derived.Test.YtfkbgodfcnmepaaDoorDmae
namespace Go.Proofs.YtfkbgodfcnmepaaDoor
set_option linter.unusedSimpArgs false
open Go.ChangeShapes Go.WideShapes Go.ChangeAt Go.RowKit Go.Pin
/-- the cells of a list of events -/
def evC (l : List (Int × Int)) : List Value := l.flatMap fun e => [.int .i64 e.1, .int .i64 e.2]
theorem evC_len (l : List (Int × Int)) : (evC l).length = l.length * 2 := by
  induction l with
  | nil => rfl
  | cons e l ih => simp only [evC, List.flatMap_cons, List.length_append] at ih ⊢; rw [ih]; simp; omega
theorem evC_at (l : List (Int × Int)) (i : Nat) (e : Int × Int) (h : l[i]? = some e) : (evC l)[i * 2]? = some (.int .i64 e.1) ∧ (evC l)[i * 2 + 1]? = some (.int .i64 e.2) := by
  induction l generalizing i with
  | nil => simp at h
  | cons x l ih =>
    cases i with
    | zero => simp at h; subst h; exact ⟨rfl, rfl⟩
    | succ i =>
      have := ih i (by simpa using h)
      rw [show (i + 1) * 2 = i * 2 + 1 + 1 by omega]
      exact this
theorem drewN_add (w : World) (n m : Nat) : (w.drewN n).drewN m = w.drewN (n + m) := by
  simp [World.drewN, Nat.add_assoc]
/-- a slice of n elements of sz cells: what it holds -/
def Sl (w : World) (v : Value) (sz : Nat) (cs : List Value) (n : Nat) : Prop :=
  cs.length = n * sz ∧ ∃ a c, v = .slice a n c ∧ n ≤ c ∧ (n = 0 ∨ ∃ b o, a = some ⟨b, o, none⟩ ∧ ∀ j x, cs[j]? = some x → w.cell? ⟨b, o + j, none⟩ = some x)
theorem evC_drop (l : List (Int × Int)) (n : Nat) : evC (l.drop n) = (evC l).drop (n * 2) := by
  induction n generalizing l with
  | zero => simp
  | succ n ih =>
    cases l with
    | nil => simp [evC]
    | cons x l =>
      rw [List.drop_succ_cons, ih, show (n + 1) * 2 = n * 2 + 2 by omega]
      rfl
theorem evC_app (a b : List (Int × Int)) : evC (a ++ b) = evC a ++ evC b := by simp [evC]
theorem owns_below {w w' : World} {base : Nat} {e : TypeId} {size : Nat} {v : Value} {n : Nat} {xs : List Value} (h : w.ownsRow base e size v n xs) (hb : Below w.heap.size w w') : w'.ownsRow base e size v n xs :=
  h.kept (row := none) ⟨hb.os, hb.tape, hb.output, hb.size, fun k hk _ => hb.block k hk⟩ (by cases hv : v.ownBlock <;> simp)
theorem info37 : (Tryd.prog.info? 82).map (fun i => (i.zero, i.size, i.bytes)) = some (some (.agg #[.int .i64 0, .int .i64 0]), 2, 16) := by kernel_rfl
end Go.Proofs.YtfkbgodfcnmepaaDoor
namespace Go.Proofs.YtfkbgodfcnmepaaDoor
set_option linter.unusedSimpArgs false
open Go.ChangeShapes Go.WideShapes Go.ChangeAt Go.RowKit Go.Pin
/-- all that lay there but the blocks of S lies as it lay; more may have come -/
structure Grow (S : Nat → Prop) (w w' : World) : Prop where
  os : w'.os = w.os
  tape : w'.tape = w.tape
  output : w'.output = w.output
  size : w.heap.size ≤ w'.heap.size
  block : ∀ k, k < w.heap.size → ¬ S k → w'.heap[k]? = w.heap[k]?
theorem Grow.below {S : Nat → Prop} {w w' : World} (h : Grow S w w') {B : Nat} (hS : ∀ k, S k → B ≤ k) (hB : B ≤ w.heap.size) : Below B w w' :=
  ⟨h.os, h.tape, h.output, h.size, fun k hk => h.block k (by omega) (fun hs => by have := hS k hs; omega)⟩
theorem Grow.of_below {S : Nat → Prop} {w w' : World} (h : Below w.heap.size w w') : Grow S w w' := ⟨h.os, h.tape, h.output, h.size, fun k hk _ => h.block k hk⟩
theorem Grow.mono {S T : Nat → Prop} {w w' : World} (h : Grow S w w') (hT : ∀ k, S k → T k) : Grow T w w' := ⟨h.os, h.tape, h.output, h.size, fun k hk hn => h.block k hk (fun hs => hn (hT k hs))⟩
theorem Grow.trans {S : Nat → Prop} {a b c : World} (h : Grow S a b) (k : Grow S b c) : Grow S a c :=
  ⟨k.os.trans h.os, k.tape.trans h.tape, k.output.trans h.output, Nat.le_trans h.size k.size, fun i hi hn => (k.block i (Nat.lt_of_lt_of_le hi h.size) hn).trans (h.block i hi hn)⟩
theorem Grow.drewN {S : Nat → Prop} {a b : World} (h : Grow S a b) (n : Nat) : Grow S a (b.drewN n) := ⟨h.os, h.tape, h.output, h.size, h.block⟩
theorem Grow.owns {S : Nat → Prop} {w w' : World} (h : Grow S w w') {base : Nat} {e : TypeId} {size : Nat} {v : Value} {n : Nat} {xs : List Value} (ho : w.ownsRow base e size v n xs) (hn : ∀ k, v.ownBlock = some k → ¬ S k) : w'.ownsRow base e size v n xs := by
  refine ⟨ho.1, ?_⟩
  rcases ho.2 with h0 | ⟨g, cap, cur, rfl, hb, hg, hr⟩
  · exact .inl h0
  · exact .inr ⟨g, cap, cur, rfl, hb, (h.block g (Array.getElem?_eq_some_iff.1 hg).1 (hn g rfl)).trans hg, hr⟩
theorem owns_mono {w : World} {b b' : Nat} (hb : b' ≤ b) {e : TypeId} {size : Nat} {v : Value} {n : Nat} {xs : List Value} (ho : w.ownsRow b e size v n xs) : w.ownsRow b' e size v n xs := by
  refine ⟨ho.1, ?_⟩
  rcases ho.2 with h0 | ⟨g, cap, cur, rfl, hb', hr⟩
  · exact .inl h0
  · exact .inr ⟨g, cap, cur, rfl, Nat.le_trans hb hb', hr⟩
/-- a row of one's own is a slice that reads so -/
theorem sl_of_owns {w : World} {b : Nat} {e : TypeId} {size : Nat} {v : Value} {n : Nat} {xs : List Value} (ho : w.ownsRow b e size v n xs) : Sl w v size xs n := by
  refine ⟨ho.1, ?_⟩
  rcases ho.2 with ⟨rfl, rfl⟩ | ⟨g, cap, cur, rfl, hb, hg, hnc, hcm, hcs, ht⟩
  · exact ⟨none, 0, rfl, Nat.le_refl _, .inl rfl⟩
  · refine ⟨_, cap, rfl, hnc, .inr ⟨g, 0, rfl, fun j x hx => ?_⟩⟩
    have := ho.cells (g := g) rfl j x hx
    rwa [add_mid] at this
theorem sl_grow {S : Nat → Prop} {w w' : World} (h : Grow S w w') {v : Value} {sz n : Nat} {cs : List Value} (hs : Sl w v sz cs n) (hn : ∀ k, v.ownBlock = some k → ¬ S k) : Sl w' v sz cs n := by
  obtain ⟨h1, a, c, rfl, hc, hr⟩ := hs
  refine ⟨h1, a, c, rfl, hc, ?_⟩
  rcases hr with h0 | ⟨b, o, rfl, hcs⟩
  · exact .inl h0
  · refine .inr ⟨b, o, rfl, fun j x hx => ?_⟩
    have hx' := hcs j x hx
    have hlt := World.block_lt_of_cell? w _ hx'
    have hb := h.block b hlt (hn b rfl)
    rw [World.cell?_of_block (a := ⟨b, o + j, none⟩) hb]
    exact hx'
theorem sl_below {w w' : World} (h : Below w.heap.size w w') {v : Value} {sz n : Nat} {cs : List Value} (hs : Sl w v sz cs n) : Sl w' v sz cs n :=
  sl_grow (S := fun _ => False) (Grow.of_below h) hs (fun _ _ h => h)
/-- a Recorder at block R, its list vs, which has logged l -/
def Rec (B : Nat) (w : World) (R : Nat) (vs : Value) (l : List (Int × Int)) : Prop :=
  B ≤ R ∧ w.heap[R]? = some (.cells #[vs, .int .i64 (l.length : Int)] 76 (0, 0)) ∧ w.ownsRow B 82 2 vs l.length (evC l)
def Blk (R : Nat) (vs : Value) : Nat → Prop := fun k => k = R ∨ vs.ownBlock = some k
theorem Rec.ge {B : Nat} {w : World} {R : Nat} {vs : Value} {l : List (Int × Int)} (h : Rec B w R vs l) : ∀ k, Blk R vs k → B ≤ k := by
  rintro k (rfl | hk)
  · exact h.1
  · exact (h.2.2.lt k hk).1
theorem Rec.lt {B : Nat} {w : World} {R : Nat} {vs : Value} {l : List (Int × Int)} (h : Rec B w R vs l) : ∀ k, Blk R vs k → k < w.heap.size := by
  rintro k (rfl | hk)
  · exact (Array.getElem?_eq_some_iff.1 h.2.1).1
  · exact (h.2.2.lt k hk).2
theorem Rec.grow {B : Nat} {w w' : World} {R : Nat} {vs : Value} {l : List (Int × Int)} {S : Nat → Prop} (h : Rec B w R vs l) (hg : Grow S w w') (hn : ∀ k, Blk R vs k → ¬ S k) : Rec B w' R vs l :=
  ⟨h.1, (hg.block R (h.lt R (.inl rfl)) (hn R (.inl rfl))).trans h.2.1, hg.owns h.2.2 (fun k hk => hn k (.inr hk))⟩
theorem Rec.below {B : Nat} {w w' : World} {R : Nat} {vs : Value} {l : List (Int × Int)} (h : Rec B w R vs l) (hg : Below w.heap.size w w') : Rec B w' R vs l :=
  h.grow (S := fun _ => False) (Grow.of_below hg) (fun _ _ h => h)
theorem Rec.mono {B B' : Nat} {w : World} {R : Nat} {vs : Value} {l : List (Int × Int)} (h : Rec B w R vs l) (hb : B' ≤ B) : Rec B' w R vs l :=
  ⟨Nat.le_trans hb h.1, h.2.1, owns_mono hb h.2.2⟩
theorem Rec.cell0 {B : Nat} {w : World} {R : Nat} {vs : Value} {l : List (Int × Int)} (h : Rec B w R vs l) : w.cell? ⟨R, 0, none⟩ = some vs := by simp [World.cell?, h.2.1]
theorem Rec.cell1 {B : Nat} {w : World} {R : Nat} {vs : Value} {l : List (Int × Int)} (h : Rec B w R vs l) : w.cell? ⟨R, 1, none⟩ = some (.int .i64 l.length) := by simp [World.cell?, h.2.1]
theorem Rec.froz {B : Nat} {w : World} {R : Nat} {vs : Value} {l : List (Int × Int)} (h : Rec B w R vs l) (j : Nat) : w.frozen? ⟨R, j, none⟩ = false := by simp [World.frozen?, h.2.1]
theorem two_set0 {w : World} {R : Nat} {a b : Value} {t : TypeId} (h : w.heap[R]? = some (.cells #[a, b] t (0, 0))) (a' : Value) : (w.setCell ⟨R, 0, none⟩ a').heap[R]? = some (.cells #[a', b] t (0, 0)) := by
  obtain ⟨hlt, hk⟩ := Array.getElem?_eq_some_iff.1 h
  show (w.heap.modify R _)[R]? = _
  rw [Array.getElem?_eq_getElem (by rw [Array.size_modify]; exact hlt), Array.getElem_modify_self, hk]
  rfl
theorem two_set1 {w : World} {R : Nat} {a b : Value} {t : TypeId} (h : w.heap[R]? = some (.cells #[a, b] t (0, 0))) (b' : Value) : (w.setCell ⟨R, 1, none⟩ b').heap[R]? = some (.cells #[a, b'] t (0, 0)) := by
  obtain ⟨hlt, hk⟩ := Array.getElem?_eq_some_iff.1 h
  show (w.heap.modify R _)[R]? = _
  rw [Array.getElem?_eq_getElem (by rw [Array.size_modify]; exact hlt), Array.getElem_modify_self, hk]
  rfl
/-- sync/atomic -/
theorem load_i64 {a : Addr} {x : Int} {w : World} (hc : w.cell? a = some (.int .i64 x)) : (callFunc 63 #[.pointer (some a)]).run Tryd.prog w = .ok (.value (.int .i64 x)) w :=
  run_call_load Tryd.func63 (by kernel_rfl) (by kernel_rfl) (by kernel_rfl) .i64 (by kernel_rfl) hc
theorem add_i64 {a : Addr} {x y : Int} {w : World} (hc : w.cell? a = some (.int .i64 x)) (hz : w.frozen? a = false) (h0 : -9223372036854775808 ≤ x + y) (h1 : x + y < 9223372036854775808) :
    (callFunc 72 #[.pointer (some a), .int .i64 y]).run Tryd.prog w = .ok (.value (.int .i64 (x + y))) (w.setCell a (.int .i64 (x + y))) :=
  run_call_add Tryd.func72 (by kernel_rfl) (by kernel_rfl) (by kernel_rfl) .i64 (by kernel_rfl) hc hz (by
    have : IntKind.i64.wrap (x + y) = x + y := by rw [IntKind.wrap_i64]; omega
    simp [go_sem, this])
set_option maxRecDepth 100000 in
theorem aLoad_any (R : Nat) (j : Nat) (x : Int) (w : World) (hc : w.cell? ⟨R, j, none⟩ = some (.int .i64 x)) :
    Calls Tryd.prog 47 #[.pointer (some ⟨R, j, none⟩)] w fun e w' => e = .returned (.int .i64 x) ∧ w' = w := by
  have hd := load_i64 hc
  go_enter Tryd.func47, Tryd.ntmps47
  go_wp2
  go_ret
  exact ⟨rfl, rfl⟩
set_option maxRecDepth 100000 in
theorem aAdd_any (R : Nat) (j : Nat) (x y : Int) (w : World) (hc : w.cell? ⟨R, j, none⟩ = some (.int .i64 x)) (hz : w.frozen? ⟨R, j, none⟩ = false) (h0 : -9223372036854775808 ≤ x + y) (h1 : x + y < 9223372036854775808) :
    Calls Tryd.prog 61 #[.pointer (some ⟨R, j, none⟩), .int .i64 y] w fun e w' => e = .returned (.int .i64 (x + y)) ∧ w' = w.setCell ⟨R, j, none⟩ (.int .i64 (x + y)) := by
  have hd := add_i64 hc hz h0 h1
  go_enter Tryd.func61, Tryd.ntmps61
  go_wp2
  go_ret
  exact ⟨rfl, rfl⟩
set_option maxRecDepth 100000 in
set_option maxHeartbeats 1000000 in
theorem rlog_any (B R : Nat) (vs : Value) (l : List (Int × Int)) (k v : Int) (w : World) (h : Rec B w R vs l) (hl : l.length ≤ 1000000) :
    Calls Tryd.prog 43 #[.pointer (some ⟨R, 0, none⟩), .int .i64 k, .int .i64 v] w fun e w' => e = .returned (.tuple #[]) ∧ ∃ vs', Rec B w' R vs' (l ++ [(k, v)]) ∧ Grow (Blk R vs) w w' ∧ (vs'.ownBlock = vs.ownBlock ∨ ∃ g, vs'.ownBlock = some g ∧ w.heap.size ≤ g) := by
  obtain ⟨i0, hi, hz0, hz1, hz2⟩ := info_parts info37
  have HI : Hid _ := And.intro hi (And.intro hz0 (And.intro hz1 hz2))
  have HR : Hid (Rec B w R vs l) := h
  have hc0 := h.cell0
  have hf0 := h.froz 0
  clear hi hz0 hz1 hz2 h
  go_enter Tryd.func43, Tryd.ntmps43
  go_wp2_with (first | (at_builtin; refine wpList_append_own_at _ rfl _ _ 36 rfl B 82 i0 (.agg #[.int .i64 0, .int .i64 0]) 2 16 Tryd.underlying36 HI.out.1 HI.out.2.1 HI.out.2.2.1 HI.out.2.2.2 rfl (by decide) _ l.length (evC l) rfl (HR.out.2.2.alloc _) ⟨w.heap.size, 0, none⟩ 1 1 [.int .i64 k, .int .i64 v] rfl rfl ?_ ?_ ?_ ?_ ?_ ?_))
  · intro j u hj
    match j, hj with
    | 0, hj => simp at hj; subst hj; simp [Addr.add]
    | 1, hj => simp at hj; subst hj; simp [Addr.add]
  · intro u hu
    simp at hu
    rcases hu with rfl | rfl <;> rfl
  · unfold maxLen; omega
  · omega
  · have := HR.out.lt R (.inl rfl)
    have := HR.out.1
    simp; omega
  · intro v' w1 hown' hgrow hnn hat
    obtain ⟨g', cap', rfl⟩ : ∃ g cap, v' = .slice (some ⟨g, 0, none⟩) (l.length + 1) cap := by
      rcases hown'.2 with ⟨_, h0⟩ | ⟨g, cap, _, rfl, _⟩
      · omega
      · exact ⟨g, cap, rfl⟩
    have hlt := HR.out.lt R (.inl rfl)
    have hne : some R ≠ vs.ownBlock := by
      intro e
      rcases HR.out.2.2.2 with ⟨rfl, _⟩ | ⟨g, cap, cur, rfl, _, hg, _⟩
      · simp [Value.ownBlock] at e
      · obtain rfl : R = g := by simpa [Value.ownBlock] using e
        have := HR.out.2.1.symm.trans hg
        simp at this
    have hw1 : w1.heap[R]? = some (.cells #[vs, .int .i64 (l.length : Int)] 76 (0, 0)) := by
      rw [hgrow.block R (by simp; omega) hne, heap_alloc_any, if_neg (by omega)]
      exact HR.out.2.1
    have hne' : g' ≠ R := by
      rintro rfl
      rcases hown'.2 with ⟨h0, _⟩ | ⟨g, cap, cur, he, _, hg, _⟩
      · cases h0
      · cases he
        rw [hw1] at hg
        simp at hg
    have c0 : w1.cell? ⟨R, 0, none⟩ = some vs := by simp [World.cell?, hw1]
    have f0 : w1.frozen? ⟨R, 0, none⟩ = false := by simp [World.frozen?, hw1]
    have hw2 := two_set0 hw1 (.slice (some ⟨g', 0, none⟩) (l.length + 1) cap')
    have c1 : (w1.setCell ⟨R, 0, none⟩ (.slice (some ⟨g', 0, none⟩) (l.length + 1) cap')).cell? ⟨R, 1, none⟩ = some (.int .i64 l.length) := by simp [World.cell?, hw2]
    have f1 : (w1.setCell ⟨R, 0, none⟩ (.slice (some ⟨g', 0, none⟩) (l.length + 1) cap')).frozen? ⟨R, 1, none⟩ = false := by simp [World.frozen?, hw2]
    have hw3 := two_set1 hw2 (.int .i64 (l.length + 1))
    have RR : Rec B ((w1.setCell ⟨R, 0, none⟩ (.slice (some ⟨g', 0, none⟩) (l.length + 1) cap')).setCell ⟨R, 1, none⟩ (.int .i64 (l.length + 1))) R (.slice (some ⟨g', 0, none⟩) (l.length + 1) cap') (l ++ [(k, v)]) := by
      refine ⟨HR.out.1, by rw [hw3, List.length_append]; rfl, ?_⟩
      rw [List.length_append, evC_app]
      refine ⟨hown'.1, ?_⟩
      rcases hown'.2 with ⟨h0, _⟩ | ⟨g, cap, cur, he, h2, hg, hr⟩
      · cases h0
      · cases he
        refine .inr ⟨g', cap', cur, rfl, h2, ?_, hr⟩
        rw [heap_setCell_other _ _ _ _ (by exact hne'), heap_setCell_other _ _ _ _ (by exact hne')]
        exact hg
    have GG : Grow (Blk R vs) w ((w1.setCell ⟨R, 0, none⟩ (.slice (some ⟨g', 0, none⟩) (l.length + 1) cap')).setCell ⟨R, 1, none⟩ (.int .i64 (l.length + 1))) := by
      refine ⟨hgrow.os, hgrow.tape, hgrow.output, ?_, ?_⟩
      · have := hgrow.size
        simp [World.setCell] at this ⊢
        omega
      · intro k hk hS
        rw [heap_setCell_other _ _ _ _ (by exact fun e => hS (.inl e)), heap_setCell_other _ _ _ _ (by exact fun e => hS (.inl e)), hgrow.block k (by simp; omega) (fun e => hS (.inr e.symm)), heap_alloc_any, if_neg (by omega)]
    have AT : (Value.slice (some ⟨g', 0, none⟩) (l.length + 1) cap').ownBlock = vs.ownBlock ∨ ∃ g, (Value.slice (some ⟨g', 0, none⟩) (l.length + 1) cap').ownBlock = some g ∧ w.heap.size ≤ g := by
      rcases hat with h | h
      · exact .inl h
      · exact .inr ⟨_, h, by simp⟩
    have HRR : Hid _ := RR
    have HGG : Hid _ := GG
    have HAT : Hid _ := AT
    have HC : Hid (∀ _ : Unit, _) := fun _ => aAdd_any R 1 l.length 1 _ c1 f1 (by omega) (by omega)
    clear hown' hgrow hnn hat RR GG AT hw1 hw2 hw3 c1 f1 hc0 hf0 HI hne hne'
    go_wp2_with (first | (go_at_call 61; refine (HC.out ()).mono ?_; rintro e w' ⟨rfl, rfl⟩))
    go_end0
    exact ⟨rfl, _, HRR.out, HGG.out, HAT.out⟩
end Go.Proofs.YtfkbgodfcnmepaaDoor
namespace Go.Proofs.YtfkbgodfcnmepaaDoor
set_option linter.unusedSimpArgs false
set_option linter.unusedVariables false
open Go.ChangeShapes Go.WideShapes Go.ChangeAt Go.RowKit Go.Pin Go.Str Go.Dig
/-- the cells from o on are vs -/
def putl : List Nat → Nat → List Nat → List Nat
  | L, _, [] => L
  | L, o, v :: r => putl (L.set o v) (o + 1) r
theorem putl_len : ∀ (vs : List Nat) (L : List Nat) (o : Nat), (putl L o vs).length = L.length
  | [], _, _ => rfl
  | v :: r, L, o => by rw [putl, putl_len r]; simp
theorem putl_at : ∀ (vs : List Nat) (L : List Nat) (o j : Nat), o + vs.length ≤ L.length → (putl L o vs).getD j 0 = if o ≤ j ∧ j < o + vs.length then vs.getD (j - o) 0 else L.getD j 0
  | [], L, o, j, _ => by rw [putl, if_neg (by simp)]
  | v :: r, L, o, j, h => by
    simp only [List.length_cons] at h
    rw [putl, putl_at r (L.set o v) (o + 1) j (by simp; omega)]
    by_cases e : j = o
    · subst e
      rw [if_neg (by omega), if_pos (by simp), getD_set_eq _ _ _ (by omega)]; simp
    · rw [getD_set_ne _ _ _ _ (fun h => e h.symm)]
      by_cases h2 : o + 1 ≤ j ∧ j < o + 1 + r.length
      · rw [if_pos h2, if_pos (by simp; omega), show j - o = (j - (o + 1)) + 1 by omega]; simp
      · rw [if_neg h2, if_neg (by simp; omega)]
def cellsW (vs : List Nat) : List Value := vs.map fun n : Nat => Value.int .u32 (n : Int)
theorem RW.puts : ∀ (vs : List Nat) {w : World} {g : Nat} {L : List Nat} {T : TypeId} (o : Nat), RW w g L T → RW (w.setCells g o (cellsW vs)) g (putl L o vs) T
  | [], _, _, _, _, _, h => h
  | v :: r, w, g, L, T, o, h => RW.puts r (o + 1) (h.set o v)
theorem setCells_below {B : Nat} {a : World} : ∀ (cs : List Value) {w : World} {g o : Nat}, Below B a w → B ≤ g → Below B a (w.setCells g o cs)
  | [], _, _, _, h, _ => h
  | v :: r, w, g, o, h, hg => setCells_below r (h.setCell (p := ⟨g, o, none⟩) hg v) hg
/-- v while the beginning comes in -/
def vbl (h : List Nat) (i : Nat) : List Nat := (List.range 16).map fun j => if j < 8 then h.getD j 0 else if j < 8 + i then iv.getD (j - 8) 0 else 0
theorem vbl_len (h : List Nat) (i : Nat) : (vbl h i).length = 16 := by simp [vbl]
theorem vbl_at (h : List Nat) (i : Nat) {j : Nat} (hj : j < 16) : (vbl h i).getD j 0 = if j < 8 then h.getD j 0 else if j < 8 + i then iv.getD (j - 8) 0 else 0 := by
  simp only [vbl, List.getD, List.getElem?_map, List.getElem?_range hj, Option.map_some, Option.getD_some]
theorem vbl_zero {h : List Nat} (hh : h.length = 8) : putl z16n 0 h = vbl h 0 := by
  apply list_ext (by rw [putl_len, vbl_len]; rfl)
  intro j hj
  rw [putl_len] at hj
  have hj' : j < 16 := hj
  rw [putl_at _ _ _ _ (by rw [hh]; decide), vbl_at _ _ hj', hh]
  by_cases h8 : j < 8
  · rw [if_pos (by omega), if_pos h8]; rfl
  · rw [if_neg (by omega), if_neg h8, if_neg (by omega)]
    rw [show z16n = List.replicate 16 0 from rfl, List.getD_eq_getElem?_getD, List.getElem?_replicate]
    split <;> rfl
theorem vbl_set (h : List Nat) {i : Nat} (hi : i < 8) : (vbl h i).set (8 + i) (iv.getD i 0) = vbl h (i + 1) := by
  apply list_ext (by simp [vbl])
  intro j hj
  rw [List.length_set, vbl_len] at hj
  by_cases e : 8 + i = j
  · rw [← e, getD_set_eq _ _ _ (by rw [vbl_len]; omega), vbl_at _ _ (by omega), if_neg (by omega), if_pos (by omega), show 8 + i - 8 = i by omega]
  · rw [getD_set_ne _ _ _ _ e, vbl_at _ _ hj, vbl_at _ _ hj]
    by_cases h8 : j < 8
    · rw [if_pos h8, if_pos h8]
    · rw [if_neg h8, if_neg h8]
      by_cases h9 : j < 8 + i
      · rw [if_pos h9, if_pos (by omega)]
      · rw [if_neg h9, if_neg (by omega)]
theorem vbl_full {h : List Nat} (hh : h.length = 8) : vbl h 8 = h ++ iv := by
  apply list_ext (by rw [vbl_len, List.length_append, hh]; rfl)
  intro j hj
  rw [vbl_len] at hj
  rw [vbl_at _ _ hj]
  by_cases h8 : j < 8
  · rw [if_pos h8, List.getD_eq_getElem?_getD, List.getD_eq_getElem?_getD, List.getElem?_append_left (by omega)]
  · rw [if_neg h8, if_pos (by omega), List.getD_eq_getElem?_getD, List.getD_eq_getElem?_getD, List.getElem?_append_right (by omega), hh]
theorem vbl_pv {h : List Nat} (hh : h.length = 8) (count mark : Nat) : (((h ++ iv).set 12 (1359893119 ^^^ (count % 4294967296))).set 13 (2600822924 ^^^ (count / 4294967296 % 4294967296))).set 14 (528734635 ^^^ mark) = pv h count mark := by
  rw [List.set_append_right _ _ (by omega), List.set_append_right _ _ (by omega), List.set_append_right _ _ (by omega), hh]
  rfl
/-- the state while the words go in -/
def stl (h V : List Nat) (i : Nat) : List Nat := (List.range 8).map fun j => if j < i then h.getD j 0 ^^^ (V.getD j 0 ^^^ V.getD (j + 8) 0) else h.getD j 0
theorem stl_len (h V : List Nat) (i : Nat) : (stl h V i).length = 8 := by simp [stl]
theorem stl_at (h V : List Nat) (i : Nat) {j : Nat} (hj : j < 8) : (stl h V i).getD j 0 = if j < i then h.getD j 0 ^^^ (V.getD j 0 ^^^ V.getD (j + 8) 0) else h.getD j 0 := by
  simp only [stl, List.getD, List.getElem?_map, List.getElem?_range hj, Option.map_some, Option.getD_some]
theorem stl_zero {h : List Nat} (hh : h.length = 8) (V : List Nat) : stl h V 0 = h := by
  apply list_ext (by rw [stl_len, hh])
  intro j hj
  rw [stl_len] at hj
  rw [stl_at _ _ _ hj, if_neg (by omega)]
theorem stl_set (h V : List Nat) {i : Nat} (hi : i < 8) : (stl h V i).set i (h.getD i 0 ^^^ (V.getD i 0 ^^^ V.getD (i + 8) 0)) = stl h V (i + 1) := by
  apply list_ext (by simp [stl])
  intro j hj
  rw [List.length_set, stl_len] at hj
  by_cases e : i = j
  · rw [← e, getD_set_eq _ _ _ (by rw [stl_len]; omega), stl_at _ _ _ hi, if_pos (by omega)]
  · rw [getD_set_ne _ _ _ _ e, stl_at _ _ _ hj, stl_at _ _ _ hj]
    by_cases h9 : j < i
    · rw [if_pos h9, if_pos (by omega)]
    · rw [if_neg h9, if_neg (by omega)]
theorem stl_full (h : List Nat) (b : List Int) (count mark : Nat) : stl h (rds (wds b) (pv h count mark) 10) 8 = prs h b count mark := by
  apply list_ext (by rw [stl_len]; simp [prs])
  intro j hj
  rw [stl_len] at hj
  rw [stl_at _ _ _ hj, if_pos hj]
  simp only [prs, List.getD, List.getElem?_map, List.getElem?_range hj, Option.map_some, Option.getD_some]
/-- a state in a box of any kind -/
def RS (w : World) (g : Nat) (pre post : List Value) (h : List Nat) (T : TypeId) : Prop := w.heap[g]? = some (.cells (pre ++ (cellsW h ++ post)).toArray T (0, 0))
theorem cellsW_len (h : List Nat) : (cellsW h).length = h.length := List.length_map ..
theorem RS.cell {w : World} {g : Nat} {pre post : List Value} {h : List Nat} {T : TypeId} (hs : RS w g pre post h T) {o i : Nat} (ho : pre.length = o) (hi : i < h.length) : w.cell? ⟨g, o + i, none⟩ = some (.int .u32 ((h.getD i 0 : Nat) : Int)) := by
  rw [cell_of_row _ _ _ _ _ _ hs]
  simp only [List.getElem?_toArray]
  rw [List.getElem?_append_right (by omega), ho, Nat.add_sub_cancel_left, List.getElem?_append_left (by rw [cellsW_len]; exact hi)]
  simp [cellsW, List.getElem?_eq_getElem hi]
theorem RS.froz {w : World} {g : Nat} {pre post : List Value} {h : List Nat} {T : TypeId} (hs : RS w g pre post h T) (i : Nat) : w.frozen? ⟨g, i, none⟩ = false := frozen_of_row w _ _ _ _ hs
theorem RS.set {w : World} {g : Nat} {pre post : List Value} {h : List Nat} {T : TypeId} (hs : RS w g pre post h T) {o i : Nat} (ho : pre.length = o) (hi : i < h.length) (v : Nat) : RS (w.setCell ⟨g, o + i, none⟩ (.int .u32 (v : Int))) g pre post (h.set i v) T := by
  unfold RS at hs ⊢
  rw [heap_setCell_same w _ _ _ _ _ hs]
  congr 2
  rw [List.setIfInBounds_toArray]
  congr 1
  rw [List.set_append_right _ _ (by omega), ho, Nat.add_sub_cancel_left, List.set_append_left _ _ (by rw [cellsW_len]; exact hi)]
  simp [cellsW, List.map_set]
theorem RS.lt {w : World} {g : Nat} {pre post : List Value} {h : List Nat} {T : TypeId} (hs : RS w g pre post h T) : g < w.heap.size := (Array.getElem?_eq_some_iff.1 hs).1
theorem wp_as {P : Program} {c c' : Code} {Q : Exit → Act → World → Prop} {a : Act} {w : World} (h : c = c') (hc : Code.wp P c' Q a w) : Code.wp P c Q a w := by rw [h]; exact hc
def findReg (n : Nat) : Code → Option Code
  | .region i ops d => if i = n then some (.region i ops d) else none
  | .seq a b => match findReg n a with
    | some c => some c
    | none => findReg n b
  | .block _ c => findReg n c
  | .loop c => findReg n c
  | .scope c => findReg n c
  | .cond _ a b => match findReg n a with
    | some c => some c
    | none => findReg n b
  | _ => none
theorem size_u32 (w : World) : (sizeOf 62).run Tryd.prog w = .ok 1 w := by kernel_rfl
/-- the beginning of an array of words that a pointer shows -/
theorem run_uptoW (w : World) (t : TypeId) (N g o n : Nat) (hN : 0 < N) (hn : n ≤ N) (ht : Tryd.prog.underlying t = some (.array N 62)) : (Instr.sliceAt t (.pointer (some ⟨g, o, none⟩)) none (some (.int .i64 (n : Int))) none).run Tryd.prog w = .ok (.slice (some ⟨g, o, none⟩) n N) w := by
  have e1 : ¬ N = 0 := by omega
  have e2 : (⟨g, o, none⟩ : Addr).add 0 = ⟨g, o, none⟩ := add_mid g o 0
  have h2 : ((n : Nat) : Int) ≤ (N : Int) := by omega
  simp [Instr.sliceAt, Instr.sureAddr, run_underlying ht, Instr.sliceBounds, run_sliceBound, size_u32, e1, e2, h2, hn]
theorem run_allW (w : World) (t : TypeId) (N g o : Nat) (hN : 0 < N) (ht : Tryd.prog.underlying t = some (.array N 62)) : (Instr.sliceAt t (.pointer (some ⟨g, o, none⟩)) none none none).run Tryd.prog w = .ok (.slice (some ⟨g, o, none⟩) N N) w := by
  have e1 : ¬ N = 0 := by omega
  have e2 : (⟨g, o, none⟩ : Addr).add 0 = ⟨g, o, none⟩ := add_mid g o 0
  simp [Instr.sliceAt, Instr.sureAddr, run_underlying ht, Instr.sliceBounds, run_sliceBound, size_u32, e1, e2]
theorem run_copyW {w : World} {gd : Nat} {Ld : List Nat} {Td : TypeId} (hd : RW w gd Ld Td) (gs os dl dc sl sc : Nat) (h : List Nat) (hs : ∀ i, i < h.length → w.cell? ⟨gs, os + i, none⟩ = some (.int .u32 ((h.getD i 0 : Nat) : Int))) (ty : TypeId) (hn : h.length = Nat.min sl dl) (h1 : h.length ≤ Ld.length) :
    (Builtin.copy_ #[103, 103] ty #[.slice (some ⟨gd, 0, none⟩) dl dc, .slice (some ⟨gs, os, none⟩) sl sc]).run Tryd.prog w = .ok (goInt h.length) (w.setCells gd 0 (cellsW h)) := by
  have := run_copy_cells (P := Tryd.prog) w 103 103 ty 62 gd 0 dl dc ⟨gs, os, none⟩ sl sc (cellsW h) Tryd.underlying103 (by kernel_rfl) (by rw [cellsW_len, hn])
    (fun j v hv => by
      rw [add_mid]
      have hj : j < h.length := by rw [← cellsW_len]; exact (List.getElem?_eq_some_iff.1 hv).1
      rw [hs j hj, ← hv]
      simp [cellsW, List.getElem?_eq_getElem hj])
    (fun j hj => by rw [cellsW_len] at hj; rw [Nat.zero_add, hd.cell (by omega)]; rfl)
    (fun j hj => hd.froz _)
    (fun v hv => by
      simp only [cellsW, List.mem_map] at hv
      obtain ⟨x, _, rfl⟩ := hv
      rfl)
  rw [cellsW_len] at this
  exact this
theorem wpBuiltin {P : Program} {o : Oper} {a : Act} {w w' : World} {K : Act → World → Prop} {Q : Exit → Act → World → Prop} {x y : Operand} {t t' : TypeId} {v u z : Value} {d : Option Nat}
    (ho : o.op = .call { callee := .builtin .copy, args := #[x, y], argTypes := #[t, t'] }) (hd : o.dst = d) (hx : a.eval x = v) (hy : a.eval y = u) (hr : (Builtin.copy_ #[t, t'] o.type #[v, u]).run P w = .ok z w') (h : K (a.put d z) w') : Oper.wp P o a w K Q := by
  subst hd
  unfold Oper.wp execOp
  simp only [ho, resolve, invoke, builtin, Sem.run_bind, Sem.run_pure, Result.andThen_ok, List.map_toArray, List.map_cons, List.map_nil, hx, hy, hr]
  exact h
noncomputable def rgPr1 : Code := ((Tryd.f41.body.bind (findReg 1)).getD .skip)
noncomputable def opPr1 : Array Oper := opsOf rgPr1
theorem rgPr1_is : rgPr1 = .region 1 opPr1 true := by kernel_rfl
theorem opPr1_ns : Region.noSelect opPr1 = true := by kernel_rfl
theorem opPr1_0 : opIs opPr1 0 (.slice 102 (.tmp 8) none (some (.const (.int .i64 8))) none) (some 13) := by unfold opIs; kernel_rfl
theorem opPr1_1 : opIs opPr1 1 (.move (.tmp 0)) (some 14) := by unfold opIs; kernel_rfl
theorem opPr1_2 : opIs opPr1 2 (.nilCheck (.tmp 14)) (some 15) := by unfold opIs; kernel_rfl
theorem opPr1_3 : opIs opPr1 3 (.slice 63 (.tmp 15) none none none) (some 16) := by unfold opIs; kernel_rfl
theorem opPr1_4 : opIs opPr1 4 (.call { callee := .builtin .copy, args := #[.tmp 13, .tmp 16], argTypes := #[103, 103] }) (some 17) := by unfold opIs; kernel_rfl
set_option maxRecDepth 100000 in
set_option maxHeartbeats 4000000 in
theorem Pr1 {Q : Exit → Act → World → Prop} {a0 : Act} {n gs os : Nat} {h : List Nat} {w : World} (hh : h.length = 8) (hv : RW w n z16n 102) (hs : ∀ i, i < 8 → w.cell? ⟨gs, os + i, none⟩ = some (.int .u32 ((h.getD i 0 : Nat) : Int)))
    (sz0 : a0.tmps.size = 78) (e8 : a0.eval (.tmp 8) = .pointer (some ⟨n, 0, none⟩)) (e0 : a0.eval (.tmp 0) = .pointer (some ⟨gs, os, none⟩))
    (HPN : ∀ c (a : Act) d v w, Q (.panic c) (a.put d v) w → Q (.panic c) a w)
    (H : Q .normal (((((a0.put (some 13) (.slice (some ⟨n, 0, none⟩) 8 16)).put (some 14) (.pointer (some ⟨gs, os, none⟩))).put (some 15) (.pointer (some ⟨gs, os, none⟩))).put (some 16) (.slice (some ⟨gs, os, none⟩) 8 8)).put (some 17) (goInt 8)) (w.drew.setCells n 0 (cellsW h))) : Code.wp Tryd.prog rgPr1 Q a0 w := by
  rw [rgPr1_is]
  refine wp_region_held_drew (S := fun _ => True) (by kernel_rfl) trivial (fun hH => ?_)
  refine wpAnyH_as (l' := #[false, false, false, false, false]) (by kernel_rfl) ?_
  refine takeH (v := .slice (some ⟨n, 0, none⟩) 8 16) opPr1_0 opPr1_ns (by kernel_rfl) (by kernel_rfl) HPN (fun w hw o ho => ?_) hH ?_
  · have := run_uptoW w 102 16 n 0 8 (by decide) (by decide) Tryd.underlying102
    unfold execOp
    simp only [ho, e8]
    go_simp
  refine wpAnyH_as (l' := #[true, false, false, false, false]) (by kernel_rfl) ?_
  refine takeH (v := .pointer (some ⟨gs, os, none⟩)) opPr1_1 opPr1_ns (by kernel_rfl) (by kernel_rfl) HPN (fun w hw o ho => run_move ho (by rw [eval_put_ne _ _ _ _ (by decide)]; exact e0) w) hH ?_
  refine wpAnyH_as (l' := #[true, true, false, false, false]) (by kernel_rfl) ?_
  refine takeH (v := .pointer (some ⟨gs, os, none⟩)) opPr1_2 opPr1_ns (by kernel_rfl) (by kernel_rfl) HPN (fun w hw o ho => run_nilCheck ho (eval_put_eq _ _ _ (by simp only [size_put, sz0]; decide)) w) hH ?_
  refine wpAnyH_as (l' := #[true, true, true, false, false]) (by kernel_rfl) ?_
  refine takeH (v := .slice (some ⟨gs, os, none⟩) 8 8) opPr1_3 opPr1_ns (by kernel_rfl) (by kernel_rfl) HPN (fun w hw o ho => ?_) hH ?_
  · have e := eval_put_eq ((a0.put (some 13) (.slice (some ⟨n, 0, none⟩) 8 16)).put (some 14) (.pointer (some ⟨gs, os, none⟩))) 15 (.pointer (some ⟨gs, os, none⟩)) (by simp only [size_put, sz0]; decide)
    have := run_allW w 63 8 gs os (by decide) Tryd.underlying63
    unfold execOp
    simp only [ho, e]
    go_simp
  refine wpAnyH_as (l' := #[true, true, true, true, false]) (by kernel_rfl) ?_
  refine readyH opPr1_4 (by kernel_rfl) (fun o ho hd => ?_)
  refine wpBuiltin ho hd (v := .slice (some ⟨n, 0, none⟩) 8 16) (u := .slice (some ⟨gs, os, none⟩) 8 8) (by rw [eval_put_ne _ _ _ _ (by decide), eval_put_ne _ _ _ _ (by decide), eval_put_ne _ _ _ _ (by decide)]; exact eval_put_eq _ _ _ (by simp only [sz0]; decide)) (eval_put_eq _ _ _ (by simp only [size_put, sz0]; decide)) (run_copyW (w := w.drew) hv gs os 8 16 8 8 h (fun i hi => hs i (by omega)) _ (by rw [hh]; rfl) (by rw [hh]; decide)) ⟨trivial, ?_⟩
  refine wpAnyH_as (l' := #[true, true, true, true, true]) (by kernel_rfl) ?_
  rw [hh]
  exact wpAnyH_done (by kernel_rfl) H _
end Go.Proofs.YtfkbgodfcnmepaaDoor
