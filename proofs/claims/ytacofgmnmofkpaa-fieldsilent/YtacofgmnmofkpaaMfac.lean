import Derived.Test.YtacofgmnmofkpaaRows
import Derived.Maps.AppendAt
import Derived.Laws.LoneSync
import Derived.Test.YtacofgmnmofkpaaMfaa
import Derived.Test.YtacofgmnmofkpaaMfab
namespace Go.Proofs.Ytacofgmnmofkpaa
set_option linter.unusedSimpArgs false
open Go.ChangeShapes Go.WideShapes Go.ChangeAt Go.RowKit Go.Pin
/-- the cells of a list of events -/
def evC (l : List (Int × Int)) : List Value := l.flatMap fun e => [.int .i64 e.1, .int .i64 e.2]
theorem evC_len (l : List (Int × Int)) : (evC l).length = l.length * 2 := by
  induction l with
  | nil => rfl
  | cons e l ih => simp only [evC, List.flatMap_cons, List.length_append] at ih ⊢; rw [ih]; simp; omega
theorem evC_at (l : List (Int × Int)) (i : Nat) (e : Int × Int) (h : l[i]? = some e) : (evC l)[i * 2]? = some (.int .i64 e.1) ∧ (evC l)[i * 2 + 1]? = some (.int .i64 e.2) := by
  induction l generalizing i with
  | nil => simp at h
  | cons x l ih =>
    cases i with
    | zero => simp at h; subst h; exact ⟨rfl, rfl⟩
    | succ i =>
      have := ih i (by simpa using h)
      rw [show (i + 1) * 2 = i * 2 + 1 + 1 by omega]
      exact this
theorem drewN_add (w : World) (n m : Nat) : (w.drewN n).drewN m = w.drewN (n + m) := by
  simp [World.drewN, Nat.add_assoc]
/-- a slice of n elements of sz cells: what it holds -/
def Sl (w : World) (v : Value) (sz : Nat) (cs : List Value) (n : Nat) : Prop :=
  cs.length = n * sz ∧ ∃ a c, v = .slice a n c ∧ n ≤ c ∧ (n = 0 ∨ ∃ b o, a = some ⟨b, o, none⟩ ∧ ∀ j x, cs[j]? = some x → w.cell? ⟨b, o + j, none⟩ = some x)
theorem evC_drop (l : List (Int × Int)) (n : Nat) : evC (l.drop n) = (evC l).drop (n * 2) := by
  induction n generalizing l with
  | zero => simp
  | succ n ih =>
    cases l with
    | nil => simp [evC]
    | cons x l =>
      rw [List.drop_succ_cons, ih, show (n + 1) * 2 = n * 2 + 2 by omega]
      rfl
theorem evC_app (a b : List (Int × Int)) : evC (a ++ b) = evC a ++ evC b := by simp [evC]
theorem owns_below {w w' : World} {base : Nat} {e : TypeId} {size : Nat} {v : Value} {n : Nat} {xs : List Value} (h : w.ownsRow base e size v n xs) (hb : Below w.heap.size w w') : w'.ownsRow base e size v n xs :=
  h.kept (row := none) ⟨hb.os, hb.tape, hb.output, hb.size, fun k hk _ => hb.block k hk⟩ (by cases hv : v.ownBlock <;> simp)
theorem info37 : (Try.prog.info? 36).map (fun i => (i.zero, i.size, i.bytes)) = some (some (.agg #[.int .i64 0, .int .i64 0]), 2, 16) := by kernel_rfl
end Go.Proofs.Ytacofgmnmofkpaa
namespace Go.Proofs.Ytacofgmnmofkpaa
set_option linter.unusedSimpArgs false
open Go.ChangeShapes Go.WideShapes Go.ChangeAt Go.RowKit Go.Pin
/-- all that lay there but the blocks of S lies as it lay; more may have come -/
structure Grow (S : Nat → Prop) (w w' : World) : Prop where
  os : w'.os = w.os
  tape : w'.tape = w.tape
  output : w'.output = w.output
  size : w.heap.size ≤ w'.heap.size
  block : ∀ k, k < w.heap.size → ¬ S k → w'.heap[k]? = w.heap[k]?
theorem Grow.below {S : Nat → Prop} {w w' : World} (h : Grow S w w') {B : Nat} (hS : ∀ k, S k → B ≤ k) (hB : B ≤ w.heap.size) : Below B w w' :=
  ⟨h.os, h.tape, h.output, h.size, fun k hk => h.block k (by omega) (fun hs => by have := hS k hs; omega)⟩
theorem Grow.of_below {S : Nat → Prop} {w w' : World} (h : Below w.heap.size w w') : Grow S w w' := ⟨h.os, h.tape, h.output, h.size, fun k hk _ => h.block k hk⟩
theorem Grow.mono {S T : Nat → Prop} {w w' : World} (h : Grow S w w') (hT : ∀ k, S k → T k) : Grow T w w' := ⟨h.os, h.tape, h.output, h.size, fun k hk hn => h.block k hk (fun hs => hn (hT k hs))⟩
theorem Grow.trans {S : Nat → Prop} {a b c : World} (h : Grow S a b) (k : Grow S b c) : Grow S a c :=
  ⟨k.os.trans h.os, k.tape.trans h.tape, k.output.trans h.output, Nat.le_trans h.size k.size, fun i hi hn => (k.block i (Nat.lt_of_lt_of_le hi h.size) hn).trans (h.block i hi hn)⟩
theorem Grow.drewN {S : Nat → Prop} {a b : World} (h : Grow S a b) (n : Nat) : Grow S a (b.drewN n) := ⟨h.os, h.tape, h.output, h.size, h.block⟩
theorem Grow.owns {S : Nat → Prop} {w w' : World} (h : Grow S w w') {base : Nat} {e : TypeId} {size : Nat} {v : Value} {n : Nat} {xs : List Value} (ho : w.ownsRow base e size v n xs) (hn : ∀ k, v.ownBlock = some k → ¬ S k) : w'.ownsRow base e size v n xs := by
  refine ⟨ho.1, ?_⟩
  rcases ho.2 with h0 | ⟨g, cap, cur, rfl, hb, hg, hr⟩
  · exact .inl h0
  · exact .inr ⟨g, cap, cur, rfl, hb, (h.block g (Array.getElem?_eq_some_iff.1 hg).1 (hn g rfl)).trans hg, hr⟩
theorem owns_mono {w : World} {b b' : Nat} (hb : b' ≤ b) {e : TypeId} {size : Nat} {v : Value} {n : Nat} {xs : List Value} (ho : w.ownsRow b e size v n xs) : w.ownsRow b' e size v n xs := by
  refine ⟨ho.1, ?_⟩
  rcases ho.2 with h0 | ⟨g, cap, cur, rfl, hb', hr⟩
  · exact .inl h0
  · exact .inr ⟨g, cap, cur, rfl, Nat.le_trans hb hb', hr⟩
/-- a row of one's own is a slice that reads so -/
theorem sl_of_owns {w : World} {b : Nat} {e : TypeId} {size : Nat} {v : Value} {n : Nat} {xs : List Value} (ho : w.ownsRow b e size v n xs) : Sl w v size xs n := by
  refine ⟨ho.1, ?_⟩
  rcases ho.2 with ⟨rfl, rfl⟩ | ⟨g, cap, cur, rfl, hb, hg, hnc, hcm, hcs, ht⟩
  · exact ⟨none, 0, rfl, Nat.le_refl _, .inl rfl⟩
  · refine ⟨_, cap, rfl, hnc, .inr ⟨g, 0, rfl, fun j x hx => ?_⟩⟩
    have := ho.cells (g := g) rfl j x hx
    rwa [add_mid] at this
theorem sl_grow {S : Nat → Prop} {w w' : World} (h : Grow S w w') {v : Value} {sz n : Nat} {cs : List Value} (hs : Sl w v sz cs n) (hn : ∀ k, v.ownBlock = some k → ¬ S k) : Sl w' v sz cs n := by
  obtain ⟨h1, a, c, rfl, hc, hr⟩ := hs
  refine ⟨h1, a, c, rfl, hc, ?_⟩
  rcases hr with h0 | ⟨b, o, rfl, hcs⟩
  · exact .inl h0
  · refine .inr ⟨b, o, rfl, fun j x hx => ?_⟩
    have hx' := hcs j x hx
    have hlt := World.block_lt_of_cell? w _ hx'
    have hb := h.block b hlt (hn b rfl)
    rw [World.cell?_of_block (a := ⟨b, o + j, none⟩) hb]
    exact hx'
theorem sl_below {w w' : World} (h : Below w.heap.size w w') {v : Value} {sz n : Nat} {cs : List Value} (hs : Sl w v sz cs n) : Sl w' v sz cs n :=
  sl_grow (S := fun _ => False) (Grow.of_below h) hs (fun _ _ h => h)
/-- a Recorder at block R, its list vs, which has logged l -/
def Rec (B : Nat) (w : World) (R : Nat) (vs : Value) (l : List (Int × Int)) : Prop :=
  B ≤ R ∧ w.heap[R]? = some (.cells #[vs, .int .i64 (l.length : Int)] 82 (0, 0)) ∧ w.ownsRow B 36 2 vs l.length (evC l)
def Blk (R : Nat) (vs : Value) : Nat → Prop := fun k => k = R ∨ vs.ownBlock = some k
theorem Rec.ge {B : Nat} {w : World} {R : Nat} {vs : Value} {l : List (Int × Int)} (h : Rec B w R vs l) : ∀ k, Blk R vs k → B ≤ k := by
  rintro k (rfl | hk)
  · exact h.1
  · exact (h.2.2.lt k hk).1
theorem Rec.lt {B : Nat} {w : World} {R : Nat} {vs : Value} {l : List (Int × Int)} (h : Rec B w R vs l) : ∀ k, Blk R vs k → k < w.heap.size := by
  rintro k (rfl | hk)
  · exact (Array.getElem?_eq_some_iff.1 h.2.1).1
  · exact (h.2.2.lt k hk).2
theorem Rec.grow {B : Nat} {w w' : World} {R : Nat} {vs : Value} {l : List (Int × Int)} {S : Nat → Prop} (h : Rec B w R vs l) (hg : Grow S w w') (hn : ∀ k, Blk R vs k → ¬ S k) : Rec B w' R vs l :=
  ⟨h.1, (hg.block R (h.lt R (.inl rfl)) (hn R (.inl rfl))).trans h.2.1, hg.owns h.2.2 (fun k hk => hn k (.inr hk))⟩
theorem Rec.below {B : Nat} {w w' : World} {R : Nat} {vs : Value} {l : List (Int × Int)} (h : Rec B w R vs l) (hg : Below w.heap.size w w') : Rec B w' R vs l :=
  h.grow (S := fun _ => False) (Grow.of_below hg) (fun _ _ h => h)
theorem Rec.mono {B B' : Nat} {w : World} {R : Nat} {vs : Value} {l : List (Int × Int)} (h : Rec B w R vs l) (hb : B' ≤ B) : Rec B' w R vs l :=
  ⟨Nat.le_trans hb h.1, h.2.1, owns_mono hb h.2.2⟩
theorem Rec.cell0 {B : Nat} {w : World} {R : Nat} {vs : Value} {l : List (Int × Int)} (h : Rec B w R vs l) : w.cell? ⟨R, 0, none⟩ = some vs := by simp [World.cell?, h.2.1]
theorem Rec.cell1 {B : Nat} {w : World} {R : Nat} {vs : Value} {l : List (Int × Int)} (h : Rec B w R vs l) : w.cell? ⟨R, 1, none⟩ = some (.int .i64 l.length) := by simp [World.cell?, h.2.1]
theorem Rec.froz {B : Nat} {w : World} {R : Nat} {vs : Value} {l : List (Int × Int)} (h : Rec B w R vs l) (j : Nat) : w.frozen? ⟨R, j, none⟩ = false := by simp [World.frozen?, h.2.1]
theorem two_set0 {w : World} {R : Nat} {a b : Value} {t : TypeId} (h : w.heap[R]? = some (.cells #[a, b] t (0, 0))) (a' : Value) : (w.setCell ⟨R, 0, none⟩ a').heap[R]? = some (.cells #[a', b] t (0, 0)) := by
  obtain ⟨hlt, hk⟩ := Array.getElem?_eq_some_iff.1 h
  show (w.heap.modify R _)[R]? = _
  rw [Array.getElem?_eq_getElem (by rw [Array.size_modify]; exact hlt), Array.getElem_modify_self, hk]
  rfl
theorem two_set1 {w : World} {R : Nat} {a b : Value} {t : TypeId} (h : w.heap[R]? = some (.cells #[a, b] t (0, 0))) (b' : Value) : (w.setCell ⟨R, 1, none⟩ b').heap[R]? = some (.cells #[a, b'] t (0, 0)) := by
  obtain ⟨hlt, hk⟩ := Array.getElem?_eq_some_iff.1 h
  show (w.heap.modify R _)[R]? = _
  rw [Array.getElem?_eq_getElem (by rw [Array.size_modify]; exact hlt), Array.getElem_modify_self, hk]
  rfl
/-- sync/atomic -/
theorem load_i64 {a : Addr} {x : Int} {w : World} (hc : w.cell? a = some (.int .i64 x)) : (callFunc 53 #[.pointer (some a)]).run Try.prog w = .ok (.value (.int .i64 x)) w :=
  run_call_load Try.func53 (by kernel_rfl) (by kernel_rfl) (by kernel_rfl) .i64 (by kernel_rfl) hc
theorem add_i64 {a : Addr} {x y : Int} {w : World} (hc : w.cell? a = some (.int .i64 x)) (hz : w.frozen? a = false) (h0 : -9223372036854775808 ≤ x + y) (h1 : x + y < 9223372036854775808) :
    (callFunc 69 #[.pointer (some a), .int .i64 y]).run Try.prog w = .ok (.value (.int .i64 (x + y))) (w.setCell a (.int .i64 (x + y))) :=
  run_call_add Try.func69 (by kernel_rfl) (by kernel_rfl) (by kernel_rfl) .i64 (by kernel_rfl) hc hz (by
    have : IntKind.i64.wrap (x + y) = x + y := by rw [IntKind.wrap_i64]; omega
    simp [go_sem, this])
set_option maxRecDepth 100000 in
theorem aLoad_any (R : Nat) (j : Nat) (x : Int) (w : World) (hc : w.cell? ⟨R, j, none⟩ = some (.int .i64 x)) :
    Calls Try.prog 26 #[.pointer (some ⟨R, j, none⟩)] w fun e w' => e = .returned (.int .i64 x) ∧ w' = w := by
  have hd := load_i64 hc
  go_enter Try.func26, Try.ntmps26
  go_wp2
  go_ret
  exact ⟨rfl, rfl⟩
set_option maxRecDepth 100000 in
theorem aAdd_any (R : Nat) (j : Nat) (x y : Int) (w : World) (hc : w.cell? ⟨R, j, none⟩ = some (.int .i64 x)) (hz : w.frozen? ⟨R, j, none⟩ = false) (h0 : -9223372036854775808 ≤ x + y) (h1 : x + y < 9223372036854775808) :
    Calls Try.prog 64 #[.pointer (some ⟨R, j, none⟩), .int .i64 y] w fun e w' => e = .returned (.int .i64 (x + y)) ∧ w' = w.setCell ⟨R, j, none⟩ (.int .i64 (x + y)) := by
  have hd := add_i64 hc hz h0 h1
  go_enter Try.func64, Try.ntmps64
  go_wp2
  go_ret
  exact ⟨rfl, rfl⟩
set_option maxRecDepth 100000 in
set_option maxHeartbeats 1000000 in
theorem rlog_any (B R : Nat) (vs : Value) (l : List (Int × Int)) (k v : Int) (w : World) (h : Rec B w R vs l) (hl : l.length ≤ 1000000) :
    Calls Try.prog 54 #[.pointer (some ⟨R, 0, none⟩), .int .i64 k, .int .i64 v] w fun e w' => e = .returned (.tuple #[]) ∧ ∃ vs', Rec B w' R vs' (l ++ [(k, v)]) ∧ Grow (Blk R vs) w w' ∧ (vs'.ownBlock = vs.ownBlock ∨ ∃ g, vs'.ownBlock = some g ∧ w.heap.size ≤ g) := by
  obtain ⟨i0, hi, hz0, hz1, hz2⟩ := info_parts info37
  have HI : Hid _ := And.intro hi (And.intro hz0 (And.intro hz1 hz2))
  have HR : Hid (Rec B w R vs l) := h
  have hc0 := h.cell0
  have hf0 := h.froz 0
  clear hi hz0 hz1 hz2 h
  go_enter Try.func54, Try.ntmps54
  go_wp2_with (first | (at_builtin; refine wpList_append_own_at _ rfl _ _ 26 rfl B 36 i0 (.agg #[.int .i64 0, .int .i64 0]) 2 16 Try.underlying26 HI.out.1 HI.out.2.1 HI.out.2.2.1 HI.out.2.2.2 rfl (by decide) _ l.length (evC l) rfl (HR.out.2.2.alloc _) ⟨w.heap.size, 0, none⟩ 1 1 [.int .i64 k, .int .i64 v] rfl rfl ?_ ?_ ?_ ?_ ?_ ?_))
  · intro j u hj
    match j, hj with
    | 0, hj => simp at hj; subst hj; simp [Addr.add]
    | 1, hj => simp at hj; subst hj; simp [Addr.add]
  · intro u hu
    simp at hu
    rcases hu with rfl | rfl <;> rfl
  · unfold maxLen; omega
  · omega
  · have := HR.out.lt R (.inl rfl)
    have := HR.out.1
    simp; omega
  · intro v' w1 hown' hgrow hnn hat
    obtain ⟨g', cap', rfl⟩ : ∃ g cap, v' = .slice (some ⟨g, 0, none⟩) (l.length + 1) cap := by
      rcases hown'.2 with ⟨_, h0⟩ | ⟨g, cap, _, rfl, _⟩
      · omega
      · exact ⟨g, cap, rfl⟩
    have hlt := HR.out.lt R (.inl rfl)
    have hne : some R ≠ vs.ownBlock := by
      intro e
      rcases HR.out.2.2.2 with ⟨rfl, _⟩ | ⟨g, cap, cur, rfl, _, hg, _⟩
      · simp [Value.ownBlock] at e
      · obtain rfl : R = g := by simpa [Value.ownBlock] using e
        have := HR.out.2.1.symm.trans hg
        simp at this
    have hw1 : w1.heap[R]? = some (.cells #[vs, .int .i64 (l.length : Int)] 82 (0, 0)) := by
      rw [hgrow.block R (by simp; omega) hne, heap_alloc_any, if_neg (by omega)]
      exact HR.out.2.1
    have hne' : g' ≠ R := by
      rintro rfl
      rcases hown'.2 with ⟨h0, _⟩ | ⟨g, cap, cur, he, _, hg, _⟩
      · cases h0
      · cases he
        rw [hw1] at hg
        simp at hg
    have c0 : w1.cell? ⟨R, 0, none⟩ = some vs := by simp [World.cell?, hw1]
    have f0 : w1.frozen? ⟨R, 0, none⟩ = false := by simp [World.frozen?, hw1]
    have hw2 := two_set0 hw1 (.slice (some ⟨g', 0, none⟩) (l.length + 1) cap')
    have c1 : (w1.setCell ⟨R, 0, none⟩ (.slice (some ⟨g', 0, none⟩) (l.length + 1) cap')).cell? ⟨R, 1, none⟩ = some (.int .i64 l.length) := by simp [World.cell?, hw2]
    have f1 : (w1.setCell ⟨R, 0, none⟩ (.slice (some ⟨g', 0, none⟩) (l.length + 1) cap')).frozen? ⟨R, 1, none⟩ = false := by simp [World.frozen?, hw2]
    have hw3 := two_set1 hw2 (.int .i64 (l.length + 1))
    have RR : Rec B ((w1.setCell ⟨R, 0, none⟩ (.slice (some ⟨g', 0, none⟩) (l.length + 1) cap')).setCell ⟨R, 1, none⟩ (.int .i64 (l.length + 1))) R (.slice (some ⟨g', 0, none⟩) (l.length + 1) cap') (l ++ [(k, v)]) := by
      refine ⟨HR.out.1, by rw [hw3, List.length_append]; rfl, ?_⟩
      rw [List.length_append, evC_app]
      refine ⟨hown'.1, ?_⟩
      rcases hown'.2 with ⟨h0, _⟩ | ⟨g, cap, cur, he, h2, hg, hr⟩
      · cases h0
      · cases he
        refine .inr ⟨g', cap', cur, rfl, h2, ?_, hr⟩
        rw [heap_setCell_other _ _ _ _ (by exact hne'), heap_setCell_other _ _ _ _ (by exact hne')]
        exact hg
    have GG : Grow (Blk R vs) w ((w1.setCell ⟨R, 0, none⟩ (.slice (some ⟨g', 0, none⟩) (l.length + 1) cap')).setCell ⟨R, 1, none⟩ (.int .i64 (l.length + 1))) := by
      refine ⟨hgrow.os, hgrow.tape, hgrow.output, ?_, ?_⟩
      · have := hgrow.size
        simp [World.setCell] at this ⊢
        omega
      · intro k hk hS
        rw [heap_setCell_other _ _ _ _ (by exact fun e => hS (.inl e)), heap_setCell_other _ _ _ _ (by exact fun e => hS (.inl e)), hgrow.block k (by simp; omega) (fun e => hS (.inr e.symm)), heap_alloc_any, if_neg (by omega)]
    have AT : (Value.slice (some ⟨g', 0, none⟩) (l.length + 1) cap').ownBlock = vs.ownBlock ∨ ∃ g, (Value.slice (some ⟨g', 0, none⟩) (l.length + 1) cap').ownBlock = some g ∧ w.heap.size ≤ g := by
      rcases hat with h | h
      · exact .inl h
      · exact .inr ⟨_, h, by simp⟩
    have HRR : Hid _ := RR
    have HGG : Hid _ := GG
    have HAT : Hid _ := AT
    have HC : Hid (∀ _ : Unit, _) := fun _ => aAdd_any R 1 l.length 1 _ c1 f1 (by omega) (by omega)
    clear hown' hgrow hnn hat RR GG AT hw1 hw2 hw3 c1 f1 hc0 hf0 HI hne hne'
    go_wp2_with (first | (go_at_call 64; refine (HC.out ()).mono ?_; rintro e w' ⟨rfl, rfl⟩))
    go_end0
    exact ⟨rfl, _, HRR.out, HGG.out, HAT.out⟩
end Go.Proofs.Ytacofgmnmofkpaa
namespace Go.Proofs.Ytacofgmnmofkpaa
set_option linter.unusedSimpArgs false
open Go.ChangeShapes Go.WideShapes Go.ChangeAt Go.RowKit Go.Pin
set_option maxRecDepth 100000 in
theorem rlog_nil (k v : Int) (w : World) :
    Calls Try.prog 54 #[.pointer none, .int .i64 k, .int .i64 v] w fun e w' => e = .returned (.tuple #[]) ∧ w' = w := by
  go_enter Try.func54, Try.ntmps54
  go_wp2
  first | go_end0 | refine bodyPost_ret (results_none rfl _ _ _) rfl ?_
  exact ⟨rfl, rfl⟩
/-- what a call that logs leaves -/
def Logged (B R : Nat) (vs : Value) (l : List (Int × Int)) (x : Int × Int) (w w' : World) : Prop :=
  ∃ vs', Rec B w' R vs' (l ++ [x]) ∧ Grow (Blk R vs) w w' ∧ (vs'.ownBlock = vs.ownBlock ∨ ∃ g, vs'.ownBlock = some g ∧ w.heap.size ≤ g)
set_option maxRecDepth 100000 in
theorem rOp_any (B R : Nat) (vs : Value) (l : List (Int × Int)) (v : Int) (w : World) (h : Rec B w R vs l) (hl : l.length ≤ 1000000) :
    Calls Try.prog 29 #[.pointer (some ⟨R, 0, none⟩), .int .i64 v] w fun e w' => e = .returned (.tuple #[]) ∧ Logged B R vs l (3, v) w w' := by
  have HR : Hid _ := h
  have HL : Hid _ := hl
  clear h hl
  go_enter Try.func29, Try.ntmps29
  go_wp2_with (first | (go_at_call 54; refine (rlog_any B R vs l _ _ _ HR.out HL.out).mono ?_; rintro e w' ⟨rfl, hw⟩))
  go_end0
  exact ⟨rfl, hw⟩
set_option maxRecDepth 100000 in
theorem rOp_nil (v : Int) (w : World) : Calls Try.prog 29 #[.pointer none, .int .i64 v] w fun e w' => e = .returned (.tuple #[]) ∧ w' = w := by
  go_enter Try.func29, Try.ntmps29
  go_wp2_with (first | (go_at_call 54; refine (rlog_nil _ _ _).mono ?_; rintro e w' ⟨rfl, rfl⟩))
  go_end0
  exact ⟨rfl, rfl⟩
/-- a Recorder, or none -/
def RecO (w : World) (v : Value) (vs : Value) (l : List (Int × Int)) : Prop :=
  (v = .pointer none ∧ vs = .slice none 0 0 ∧ l = []) ∨ ∃ B R, v = .pointer (some ⟨R, 0, none⟩) ∧ Rec B w R vs l
theorem Rec.opt {B : Nat} {w : World} {R : Nat} {vs : Value} {l : List (Int × Int)} (h : Rec B w R vs l) : RecO w (.pointer (some ⟨R, 0, none⟩)) vs l := .inr ⟨B, R, rfl, h⟩
theorem recO_nil (w : World) : RecO w (.pointer none) (.slice none 0 0) [] := .inl ⟨rfl, rfl, rfl⟩
theorem RecO.below {w w' : World} {v vs : Value} {l : List (Int × Int)} (h : RecO w v vs l) (hb : Below w.heap.size w w') : RecO w' v vs l := by
  rcases h with h | ⟨B, R, rfl, h⟩
  · exact .inl h
  · exact .inr ⟨B, R, rfl, h.below hb⟩
theorem RecO.owns {w : World} {v vs : Value} {l : List (Int × Int)} (h : RecO w v vs l) : w.ownsRow 0 36 2 vs l.length (evC l) := by
  rcases h with ⟨rfl, rfl, rfl⟩ | ⟨B, R, rfl, h⟩
  · exact World.ownsRow_nil _ _ _ _
  · exact owns_mono (Nat.zero_le _) h.2.2
theorem RecO.sl {w : World} {v vs : Value} {l : List (Int × Int)} (h : RecO w v vs l) : Sl w vs 2 (evC l) l.length := sl_of_owns h.owns
set_option maxRecDepth 100000 in
theorem total_any (v vs : Value) (l : List (Int × Int)) (w : World) (h : RecO w v vs l) :
    Calls Try.prog 13 #[v] w fun e w' => e = .returned (.int .i64 l.length) ∧ w' = w := by
  rcases h with ⟨rfl, rfl, rfl⟩ | ⟨B, R, rfl, h⟩
  · go_enter Try.func13, Try.ntmps13
    go_wp2
    go_ret
    exact ⟨rfl, rfl⟩
  · have hc0 := h.cell0
    have HC : Hid _ := h.cell1
    clear h
    go_enter Try.func13, Try.ntmps13
    go_wp2_with (first | (go_at_call 26; refine (aLoad_any R 1 l.length _ HC.out).mono ?_; rintro e w' ⟨rfl, rfl⟩))
    go_ret
    exact ⟨rfl, rfl⟩
theorem rec_new (w : World) : Rec w.heap.size (w.alloc (.cells #[.slice none 0 0, .int .i64 0] 82)) w.heap.size (.slice none 0 0) [] :=
  ⟨Nat.le_refl _, by rw [heap_alloc_any, if_pos rfl]; rfl, World.ownsRow_nil _ _ _ _⟩
set_option maxRecDepth 100000 in
theorem new_any (w : World) :
    Calls Try.prog 15 #[] w fun e w' => e = .returned (.pointer (some ⟨w.heap.size, 0, none⟩)) ∧ w' = w.alloc (.cells #[.slice none 0 0, .int .i64 0] 82) := by
  go_enter Try.func15, Try.ntmps15
  go_wp2
  go_ret
  exact ⟨rfl, rfl⟩
end Go.Proofs.Ytacofgmnmofkpaa
namespace Go.Proofs.Ytacofgmnmofkpaa
set_option linter.unusedSimpArgs false
open Go.ChangeShapes Go.WideShapes Go.ChangeAt Go.RowKit Go.Pin Go.Fld
/-- a call of Op that leaves what Q says, from every world above w -/
structure Opc (rv : Value) (v : Int) (w : World) (Q : World → World → Prop) : Prop where
  call : ∀ W, Below w.heap.size w W → Calls Try.prog 29 #[rv, .int .i64 v] W fun e W' => e = .returned (.tuple #[]) ∧ Q W W'
  keep : ∀ W W', Below w.heap.size w W → Q W W' → Grow (fun k => k < w.heap.size) W W'
/-- what a call that logs one operation leaves -/
def Opd (Q : World → World → Prop) (w w' : World) : Prop :=
  ∃ W W', Below w.heap.size w W ∧ Q W W' ∧ Grow (fun k => w.heap.size ≤ k ∧ k < W.heap.size) W' w'
theorem opc_nil (v : Int) (w : World) : Opc (.pointer none) v w (fun W W' => W' = W) :=
  ⟨fun W _ => rOp_nil v W, fun W W' _ h => by rw [h]; exact ⟨rfl, rfl, rfl, Nat.le_refl _, fun _ _ _ => rfl⟩⟩
theorem Opd.nil {w w' : World} (h : Opd (fun W W' => W' = W) w w') : Below w.heap.size w w' := by
  obtain ⟨W, _, h1, rfl, h2⟩ := h
  exact ⟨h2.os.trans h1.os, h2.tape.trans h1.tape, h2.output.trans h1.output, Nat.le_trans h1.size h2.size, fun k hk => (h2.block k (Nat.lt_of_lt_of_le hk h1.size) (by omega)).trans (h1.block k hk)⟩
theorem opc_rec {B R : Nat} {vs : Value} {l : List (Int × Int)} {w : World} (v : Int) (h : Rec B w R vs l) (hl : l.length ≤ 1000000) : Opc (.pointer (some ⟨R, 0, none⟩)) v w (Logged B R vs l (3, v)) :=
  ⟨fun W hW => rOp_any B R vs l v W (h.below hW) hl, fun W W' _ hq => by
    obtain ⟨vs', _, h2, _⟩ := hq
    exact h2.mono (fun k hk => h.lt k hk)⟩
theorem Opd.rec {B R : Nat} {vs : Value} {l : List (Int × Int)} {x : Int × Int} {w w' : World} (h : Rec B w R vs l) (ho : Opd (Logged B R vs l x) w w') : Logged B R vs l x w w' := by
  obtain ⟨W, W', h1, ⟨vs', h2, h3, h4⟩, h5⟩ := ho
  have hR : R < w.heap.size := h.lt R (.inl rfl)
  have hS : ∀ k, Blk R vs' k → ¬ (w.heap.size ≤ k ∧ k < W.heap.size) := by
    intro k hk
    rcases hk with rfl | hk
    · omega
    · rcases h4 with h4 | ⟨g, h4, hg⟩
      · have := h.lt k (.inr (h4 ▸ hk)); omega
      · rw [h4] at hk; injection hk with hk; omega
  refine ⟨vs', h2.grow h5 hS, ?_, ?_⟩
  · have g1 : Grow (Blk R vs) w W := Grow.of_below h1
    have g2 := g1.trans h3
    exact ⟨h5.os.trans g2.os, h5.tape.trans g2.tape, h5.output.trans g2.output, Nat.le_trans g2.size h5.size, fun k hk hn => (h5.block k (Nat.lt_of_lt_of_le hk g2.size) (by omega)).trans (g2.block k hk hn)⟩
  · rcases h4 with h4 | ⟨g, h4, hg⟩
    · exact .inl h4
    · exact .inr ⟨g, h4, Nat.le_trans h1.size hg⟩
theorem row5 {w : World} {g : Nat} {l : List Int} {T : TypeId} (h : rowAt w g l T) (h5 : l.length = 5) : ∃ x0 x1 x2 x3 x4, Hid (l = [x0, x1, x2, x3, x4]) ∧
    w.cell? ⟨g, 0, none⟩ = some (.int .u64 x0) ∧ w.cell? ⟨g, 1, none⟩ = some (.int .u64 x1) ∧ w.cell? ⟨g, 2, none⟩ = some (.int .u64 x2) ∧ w.cell? ⟨g, 3, none⟩ = some (.int .u64 x3) ∧ w.cell? ⟨g, 4, none⟩ = some (.int .u64 x4) ∧
    w.frozen? ⟨g, 0, none⟩ = false ∧ w.frozen? ⟨g, 1, none⟩ = false ∧ w.frozen? ⟨g, 2, none⟩ = false ∧ w.frozen? ⟨g, 3, none⟩ = false ∧ w.frozen? ⟨g, 4, none⟩ = false := by
  obtain ⟨x0, x1, x2, x3, x4, rfl⟩ := five h5
  exact ⟨x0, x1, x2, x3, x4, rfl, row_cell h (i := 0) (by simp), row_cell h (i := 1) (by simp), row_cell h (i := 2) (by simp), row_cell h (i := 3) (by simp), row_cell h (i := 4) (by simp),
    frozen_of_row w _ _ _ _ h, frozen_of_row w _ _ _ _ h, frozen_of_row w _ _ _ _ h, frozen_of_row w _ _ _ _ h, frozen_of_row w _ _ _ _ h⟩
/-- the last lines of a call whose result is an Element at n + 2 -/
theorem store5 {w : World} {g : Nat} {T : TypeId} (h : rowAt w g (List.replicate 5 0) T) (x0 x1 x2 x3 x4 : Int) :
    rowAt (((((w.setCell ⟨g, 0, none⟩ (.int .u64 x0)).setCell ⟨g, 1, none⟩ (.int .u64 x1)).setCell ⟨g, 2, none⟩ (.int .u64 x2)).setCell ⟨g, 3, none⟩ (.int .u64 x3)).setCell ⟨g, 4, none⟩ (.int .u64 x4)) g [x0, x1, x2, x3, x4] T :=
  row_set (row_set (row_set (row_set (row_set h 0 _) 1 _) 2 _) 3 _) 4 _
theorem Grow.setCell {S : Nat → Prop} {a w : World} (h : Grow S a w) {p : Addr} (hp : S p.block ∨ a.heap.size ≤ p.block) (u : Value) : Grow S a (w.setCell p u) :=
  ⟨h.os, h.tape, h.output, by simpa using h.size, fun k hk hn => by
    rw [heap_setCell_other _ _ _ _ (by rcases hp with hp | hp; exact fun e => hn (by rw [e]; exact hp); omega)]; exact h.block k hk hn⟩
theorem Grow.refl (S : Nat → Prop) (w : World) : Grow S w w := ⟨rfl, rfl, rfl, Nat.le_refl _, fun _ _ _ => rfl⟩
theorem Grow.drew {S : Nat → Prop} {a w : World} (h : Grow S a w) : Grow S a w.drew := ⟨h.os, h.tape, h.output, h.size, h.block⟩
theorem Grow.but {S : Nat → Prop} {a w w' : World} (h : Grow S a w) {T : Nat → Prop} (hb : But T w w') (hT : ∀ k, T k → S k ∨ a.heap.size ≤ k) : Grow S a w' :=
  ⟨hb.os.trans h.os, hb.tape.trans h.tape, hb.output.trans h.output, by rw [hb.size]; exact h.size, fun k hk hn => (hb.block k (fun ht => by rcases hT k ht with h1 | h1; exact hn h1; omega)).trans (h.block k hk hn)⟩
theorem Grow.bel {S : Nat → Prop} {a w w' : World} (h : Grow S a w) (hb : Below w.heap.size w w') : Grow S a w' := h.trans (Grow.of_below hb)
/-- the boxes of Add and Sub -/
structure AW (n : Nat) (W' : World) (x b : List Int) (wr : World) : Prop where
  grow : Grow (fun k => n ≤ k ∧ k < n + 3) W' wr
  sz : n + 3 ≤ wr.heap.size
  ha : rowAt wr n x 47
  hb : rowAt wr (n + 1) b 47
  hr : rowAt wr (n + 2) (List.replicate 5 0) 47
theorem AW.set {n : Nat} {W' wr : World} {x b : List Int} (h : AW n W' x b wr) (i : Nat) (v : Int) : AW n W' (x.set i v) b (wr.setCell ⟨n, i, none⟩ (.int .u64 v)) :=
  ⟨h.grow.setCell (.inl ⟨Nat.le_refl _, by simp⟩) _, by simpa using h.sz, row_set h.ha _ _, row_other h.hb (by simp) _, row_other h.hr (by simp) _⟩
theorem AW.drew {n : Nat} {W' wr : World} {x b : List Int} (h : AW n W' x b wr) : AW n W' x b wr.drew := ⟨h.grow.drew, h.sz, h.ha, h.hb, h.hr⟩
theorem AW.up {n : Nat} {W' wr w2 : World} {x b y : List Int} (h : AW n W' x b wr) (hu : Up n 47 y wr w2) : AW n W' y b w2 :=
  ⟨h.grow.but hu.but (fun k hk => .inl (by omega)), by rw [hu.but.size]; exact h.sz, hu.row, (hu.but.block _ (by omega)).trans h.hb, (hu.but.block _ (by omega)).trans h.hr⟩
theorem alloc3_rows (w : World) (a b : List Int) : rowAt (((w.alloc (.cells (VI .u64 a) 47)).alloc (.cells (VI .u64 b) 47)).alloc (.cells (VI .u64 (List.replicate 5 0)) 47)) w.heap.size a 47 ∧
    rowAt (((w.alloc (.cells (VI .u64 a) 47)).alloc (.cells (VI .u64 b) 47)).alloc (.cells (VI .u64 (List.replicate 5 0)) 47)) (w.heap.size + 1) b 47 ∧
    rowAt (((w.alloc (.cells (VI .u64 a) 47)).alloc (.cells (VI .u64 b) 47)).alloc (.cells (VI .u64 (List.replicate 5 0)) 47)) (w.heap.size + 2) (List.replicate 5 0) 47 ∧
    (((w.alloc (.cells (VI .u64 a) 47)).alloc (.cells (VI .u64 b) 47)).alloc (.cells (VI .u64 (List.replicate 5 0)) 47)).heap.size = w.heap.size + 3 ∧
    Below w.heap.size w (((w.alloc (.cells (VI .u64 a) 47)).alloc (.cells (VI .u64 b) 47)).alloc (.cells (VI .u64 (List.replicate 5 0)) 47)) := by
  refine ⟨?_, ?_, ?_, by simp [size_alloc], (((Below.refl _ _).alloc (Nat.le_refl _) _).alloc (by simp) _).alloc (by simp; omega) _⟩
  all_goals simp only [rowAt, heap_alloc_any, size_alloc]
  · rw [if_neg (by omega), if_neg (by omega), if_pos trivial]
  · rw [if_neg (by omega), if_pos trivial]
  · rw [if_pos trivial]
theorem AW.start {n : Nat} {W W' : World} {a b : List Int} (ha : rowAt W n a 47) (hb : rowAt W (n + 1) b 47) (hr : rowAt W (n + 2) (List.replicate 5 0) 47) (hs : W.heap.size = n + 3) (hg : Grow (fun k => k < n) W W') : AW n W' a b W' :=
  ⟨Grow.refl _ _, by rw [← hs]; exact hg.size, (hg.block _ (by omega) (by omega)).trans ha, (hg.block _ (by omega) (by omega)).trans hb, (hg.block _ (by omega) (by omega)).trans hr⟩
theorem zip_lim {a b : List Int} (ha : Lim a) (hb : Lim b) : (List.zipWith (· + ·) a b).length = 5 ∧ ∀ x ∈ List.zipWith (· + ·) a b, 0 ≤ x ∧ x < 1152921504606846976 := by
  refine ⟨by simp [ha.len, hb.len], fun x hx => ?_⟩
  obtain ⟨i, hi, rfl⟩ := List.getElem_of_mem hx
  have ga := ha.bd _ (List.getElem_mem (l := a) (n := i) (by simp at hi; omega))
  have gb := hb.bd _ (List.getElem_mem (l := b) (n := i) (by simp at hi; omega))
  rw [List.getElem_zipWith]
  omega
set_option maxRecDepth 100000 in
set_option maxHeartbeats 4000000 in
theorem add_any (rv : Value) (a b : List Int) (ha : Lim a) (hb : Lim b) (w : World) (Q : World → World → Prop) (hq : Opc rv 1 w Q) :
    Calls Try.prog 34 #[rv, .agg (VI .u64 a), .agg (VI .u64 b)] w fun e w' => e = .returned (.agg (VI .u64 (stl (List.zipWith (· + ·) a b)))) ∧ Opd Q w w' := by
  have HA : Hid (Lim a) := ha
  have HB : Hid (Lim b) := hb
  have HQ : Hid (Opc rv 1 w Q) := hq
  clear ha hb hq
  obtain ⟨r1, r2, r3, hs, hbw⟩ := alloc3_rows w a b
  obtain ⟨W, hW⟩ : ∃ W, ((w.alloc (.cells (VI .u64 a) 47)).alloc (.cells (VI .u64 b) 47)).alloc (.cells (VI .u64 (List.replicate 5 0)) 47) = W := ⟨_, rfl⟩
  have hW' : ((w.alloc (.cells (VI .u64 a) 47)).alloc (.cells (VI .u64 b) 47)).alloc (.cells #[.int .u64 0, .int .u64 0, .int .u64 0, .int .u64 0, .int .u64 0] 47) = W := hW
  rw [hW] at r1 r2 r3 hs hbw
  have HS : Hid (W.heap.size = w.heap.size + 3) := hs
  have HBW : Hid (Below w.heap.size w W) := hbw
  have HAW : Hid (∀ W1, Grow (fun k => k < w.heap.size) W W1 → AW w.heap.size W1 a b W1) := fun W1 hg => AW.start r1 r2 r3 hs hg
  clear hW r1 r2 r3 hs hbw
  go_enter Try.func34, Try.ntmps34
  go_wp2_with (go_at_call 29; refine (HQ.out.call _ HBW.out).mono ?_; rintro e W1 ⟨rfl, hQ⟩)
  have HAW1 : Hid (AW w.heap.size W1 a b W1) := HAW.out W1 (HQ.out.keep _ _ HBW.out hQ)
  have HD : Hid (∀ w', Grow (fun k => w.heap.size ≤ k ∧ k < w.heap.size + 3) W1 w' → Opd Q w w') := fun w' hg => ⟨W, W1, HBW.out, hQ, hg.mono (fun k hk => by rw [HS.out]; exact hk)⟩
  clear HAW hQ hW' HQ HBW HS
  clear W
  obtain ⟨zl, zb⟩ := zip_lim HA.out HB.out
  have HZ : Hid (∀ x ∈ List.zipWith (· + ·) a b, 0 ≤ x ∧ x < 1152921504606846976) := zb
  clear zb
  go_loopw [10] (fun i w' => ∃ k : Nat, k ≤ 5 ∧ i = .int .i64 k ∧ AW w.heap.size W1 ((List.zipWith (· + ·) a b).take k ++ a.drop k) b w') (fun i _ => 5 - (intOf i).toNat)
  case atStart => exact ⟨0, Nat.zero_le _, rfl, HAW1.out⟩
  case round =>
    clear HAW1
    obtain ⟨k, hk, rfl, hp⟩ := hrel
    by_cases hlt : k < 5
    · have hka : k < a.length := by rw [HA.out.len]; exact hlt
      have hkb : k < b.length := by rw [HB.out.len]; exact hlt
      have hkz : k < (List.zipWith (· + ·) a b).length := by rw [zl]; exact hlt
      have hca := row_cell hp.ha (i := k) (by simp; omega)
      rw [List.getD_eq_getElem?_getD, get_step _ _ _ hkz hka] at hca
      have hcb := row_cell hp.hb (i := k) hkb
      rw [List.getD_eq_getElem?_getD, List.getElem?_eq_getElem hkb, Option.getD_some] at hcb
      have hfz : wr.frozen? ⟨w.heap.size, k, none⟩ = false := frozen_of_row wr _ _ _ _ hp.ha
      obtain ⟨xa0, xa1⟩ := HA.out.bd _ (List.getElem_mem hka)
      obtain ⟨xb0, xb1⟩ := HB.out.bd _ (List.getElem_mem hkb)
      have hst := hp.set k (a[k] + b[k])
      have hz : (List.zipWith (· + ·) a b)[k] = a[k] + b[k] := List.getElem_zipWith ..
      rw [← hz, set_step _ _ _ hkz hka, hz] at hst
      have HST : Hid (AW w.heap.size W1 ((List.zipWith (· + ·) a b).take (k + 1) ++ a.drop (k + 1)) b (wr.setCell ⟨w.heap.size, k, none⟩ (.int .u64 (a[k] + b[k])))) := hst
      clear hp hst hz
      generalize a[k] = ak at *
      generalize b[k] = bk at *
      go_wp2
      go_region
      go_wp2
      go_roundw
      case rel => exact ⟨k + 1, by omega, by go_num, HST.out.drew⟩
      case measure => simp [intOf]; omega
    · have hk' : k = 5 := by omega
      subst hk'
      rw [List.take_of_length_le (by omega), List.drop_of_length_le (by rw [HA.out.len]; omega), List.append_nil] at hp
      have HP : Hid (AW w.heap.size W1 (List.zipWith (· + ·) a b) b wr) := hp
      clear hp
      go_wp2_with (go_at_call 57; refine (settle_any w.heap.size 47 (List.zipWith (· + ·) a b) zl HZ.out wr HP.out.ha).mono ?_; rintro e w2 ⟨rfl, hU⟩; have hp2 := HP.out.up hU; obtain ⟨x0, x1, x2, x3, x4, hxe, hx0, hx1, hx2, hx3, hx4, _, _, _, _, _⟩ := row5 hp2.ha (stl_lim _ zl HZ.out).1.len; obtain ⟨_, _, _, _, _, _, hy0, hy1, hy2, hy3, hy4, hz0, hz1, hz2, hz3, hz4⟩ := row5 hp2.hr (by simp); have HP2 : Hid (AW w.heap.size W1 (stl (List.zipWith (· + ·) a b)) b w2) := hp2; clear hp2 hU)
      refine bodyPost_ret (v := .agg (VI .u64 [x0, x1, x2, x3, x4])) ?_ rfl ⟨by rw [hxe.out], HD.out _ (((((HP2.out.grow.setCell ?_ _).setCell ?_ _).setCell ?_ _).setCell ?_ _).setCell ?_ _)⟩
      · exact results_cell_row (P := Try.prog) (fn := Try.f34) (p := 6) (ty := 47) rfl _ _ (w.heap.size + 1 + 1) 47 (VI .u64 [x0, x1, x2, x3, x4]) (0, 0) _ rfl (store5 HP2.out.hr x0 x1 x2 x3 x4) Try.underlying47 rfl infoE
      all_goals (left; simp; omega)
end Go.Proofs.Ytacofgmnmofkpaa
namespace Go.Proofs.Ytacofgmnmofkpaa
set_option linter.unusedSimpArgs false
open Go.ChangeShapes Go.WideShapes Go.ChangeAt Go.RowKit Go.Pin Go.Fld
theorem alloc2_rows (w : World) (a : List Int) : rowAt ((w.alloc (.cells (VI .u64 a) 47)).alloc (.cells (VI .u64 (List.replicate 5 0)) 47)) w.heap.size a 47 ∧
    rowAt ((w.alloc (.cells (VI .u64 a) 47)).alloc (.cells (VI .u64 (List.replicate 5 0)) 47)) (w.heap.size + 1) (List.replicate 5 0) 47 ∧
    ((w.alloc (.cells (VI .u64 a) 47)).alloc (.cells (VI .u64 (List.replicate 5 0)) 47)).heap.size = w.heap.size + 2 ∧
    Below w.heap.size w ((w.alloc (.cells (VI .u64 a) 47)).alloc (.cells (VI .u64 (List.replicate 5 0)) 47)) := by
  refine ⟨?_, ?_, by simp [size_alloc], ((Below.refl _ _).alloc (Nat.le_refl _) _).alloc (by simp) _⟩
  all_goals simp only [rowAt, heap_alloc_any, size_alloc]
  · rw [if_neg (by omega), if_pos trivial]
  · rw [if_pos trivial]
theorem row_below {w w' : World} {g : Nat} {l : List Int} {T : TypeId} (h : rowAt w g l T) (hb : Below w.heap.size w w') : rowAt w' g l T :=
  (hb.block g (Array.getElem?_eq_some_iff.1 h).1).trans h
theorem row_grow {S : Nat → Prop} {w w' : World} {g : Nat} {l : List Int} {T : TypeId} (h : rowAt w g l T) (hb : Grow S w w') (hS : ¬ S g) : rowAt w' g l T :=
  (hb.block g (Array.getElem?_eq_some_iff.1 h).1 hS).trans h
theorem prod_lim {a b : List Int} (ha : Lim a) (hb : Lim b) : Lim (prod a b) := (prod_el ha hb).1
set_option maxRecDepth 100000 in
set_option maxHeartbeats 4000000 in
theorem mul_any (rv : Value) (a b : List Int) (ha : Lim a) (hb : Lim b) (w : World) (Q : World → World → Prop) (hq : Opc rv 3 w Q) :
    Calls Try.prog 39 #[rv, .agg (VI .u64 a), .agg (VI .u64 b)] w fun e w' => e = .returned (.agg (VI .u64 (prod a b))) ∧ Opd Q w w' := by
  have HA : Hid (Lim a) := ha
  have HB : Hid (Lim b) := hb
  have HQ : Hid (Opc rv 3 w Q) := hq
  obtain ⟨r1, r2, r3, hs, hbw⟩ := alloc3_rows w a b
  obtain ⟨W, hW⟩ : ∃ W, ((w.alloc (.cells (VI .u64 a) 47)).alloc (.cells (VI .u64 b) 47)).alloc (.cells (VI .u64 (List.replicate 5 0)) 47) = W := ⟨_, rfl⟩
  have hW' : ((w.alloc (.cells (VI .u64 a) 47)).alloc (.cells (VI .u64 b) 47)).alloc (.cells #[.int .u64 0, .int .u64 0, .int .u64 0, .int .u64 0, .int .u64 0] 47) = W := hW
  rw [hW] at r1 r2 r3 hs hbw
  have HS : Hid (W.heap.size = w.heap.size + 3) := hs
  have HBW : Hid (Below w.heap.size w W) := hbw
  have HAW : Hid (∀ W1, Grow (fun k => k < w.heap.size) W W1 → AW w.heap.size W1 a b W1) := fun W1 hg => AW.start r1 r2 r3 hs hg
  have hpl := (prod_lim ha hb).len
  clear hW r1 r2 r3 hs hbw hq ha hb
  obtain ⟨x0, x1, x2, x3, x4, hxe⟩ := five hpl
  have hv : VI .u64 (prod a b) = #[.int .u64 x0, .int .u64 x1, .int .u64 x2, .int .u64 x3, .int .u64 x4] := by rw [hxe]; rfl
  clear hpl hxe
  go_enter Try.func39, Try.ntmps39
  go_wp2_with (first | (go_at_call 29; refine (HQ.out.call _ HBW.out).mono ?_; rintro e W1 ⟨rfl, hQ⟩; have hp := HAW.out W1 (HQ.out.keep _ _ HBW.out hQ); obtain ⟨a0, a1, a2, a3, a4, hae, ha0, ha1, ha2, ha3, ha4, _, _, _, _, _⟩ := row5 hp.ha HA.out.len; obtain ⟨b0, b1, b2, b3, b4, hbe, hb0, hb1, hb2, hb3, hb4, _, _, _, _, _⟩ := row5 hp.hb HB.out.len; have HP : Hid (AW w.heap.size W1 a b W1) := hp; have HD : Hid (∀ w', Grow (fun k => w.heap.size ≤ k ∧ k < w.heap.size + 3) W1 w' → Opd Q w w') := (fun w' hg => ⟨W, W1, HBW.out, hQ, hg.mono (fun k hk => by rw [HS.out]; exact hk)⟩); clear hp HAW hQ hW' HQ HBW HS) | (go_at_call 59; have hpr := product_any a b HA.out HB.out W1; rw [hv] at hpr; rw [hae.out, hbe.out] at hpr; refine hpr.mono ?_; rintro e w2 ⟨rfl, hb2⟩; have hr2 := row_below HP.out.hr hb2; obtain ⟨_, _, _, _, _, _, hy0, hy1, hy2, hy3, hy4, hz0, hz1, hz2, hz3, hz4⟩ := row5 hr2 (by simp); have HR2 : Hid (rowAt w2 (w.heap.size + 2) (List.replicate 5 0) 47) := hr2; have HB2 : Hid (Below W1.heap.size W1 w2) := hb2; clear hr2 hb2 hpr))
  refine bodyPost_ret (v := .agg (VI .u64 [x0, x1, x2, x3, x4])) ?_ rfl ⟨by rw [hv]; rfl, HD.out _ ((((((HP.out.grow.bel HB2.out).setCell ?_ _).setCell ?_ _).setCell ?_ _).setCell ?_ _).setCell ?_ _)⟩
  · exact results_cell_row (P := Try.prog) (fn := Try.f39) (p := 6) (ty := 47) rfl _ _ (w.heap.size + 1 + 1) 47 (VI .u64 [x0, x1, x2, x3, x4]) (0, 0) _ rfl (store5 HR2.out x0 x1 x2 x3 x4) Try.underlying47 rfl infoE
  all_goals (left; simp; omega)
/-- the boxes of Square, Scale and Invert -/
structure BW (n : Nat) (W' : World) (a : List Int) (wr : World) : Prop where
  grow : Grow (fun k => n ≤ k ∧ k < n + 2) W' wr
  sz : n + 2 ≤ wr.heap.size
  ha : rowAt wr n a 47
  hr : rowAt wr (n + 1) (List.replicate 5 0) 47
theorem BW.start {n : Nat} {W W' : World} {a : List Int} (ha : rowAt W n a 47) (hr : rowAt W (n + 1) (List.replicate 5 0) 47) (hs : W.heap.size = n + 2) (hg : Grow (fun k => k < n) W W') : BW n W' a W' :=
  ⟨Grow.refl _ _, by rw [← hs]; exact hg.size, (hg.block _ (by omega) (by omega)).trans ha, (hg.block _ (by omega) (by omega)).trans hr⟩
set_option maxRecDepth 100000 in
set_option maxHeartbeats 4000000 in
theorem square_any (rv : Value) (a : List Int) (ha : Lim a) (w : World) (Q : World → World → Prop) (hq : Opc rv 4 w Q) :
    Calls Try.prog 41 #[rv, .agg (VI .u64 a)] w fun e w' => e = .returned (.agg (VI .u64 (prod a a))) ∧ Opd Q w w' := by
  have HA : Hid (Lim a) := ha
  have HQ : Hid (Opc rv 4 w Q) := hq
  obtain ⟨r1, r2, hs, hbw⟩ := alloc2_rows w a
  obtain ⟨W, hW⟩ : ∃ W, (w.alloc (.cells (VI .u64 a) 47)).alloc (.cells (VI .u64 (List.replicate 5 0)) 47) = W := ⟨_, rfl⟩
  have hW' : (w.alloc (.cells (VI .u64 a) 47)).alloc (.cells #[.int .u64 0, .int .u64 0, .int .u64 0, .int .u64 0, .int .u64 0] 47) = W := hW
  rw [hW] at r1 r2 hs hbw
  have HS : Hid (W.heap.size = w.heap.size + 2) := hs
  have HBW : Hid (Below w.heap.size w W) := hbw
  have HAW : Hid (∀ W1, Grow (fun k => k < w.heap.size) W W1 → BW w.heap.size W1 a W1) := fun W1 hg => BW.start r1 r2 hs hg
  have hlb : Lim (a) := ha
  have HLB : Hid (Lim (a)) := hlb
  have hpl := (prod_lim ha hlb).len
  clear hW r1 r2 hs hbw hq ha hlb
  obtain ⟨x0, x1, x2, x3, x4, hxe⟩ := five hpl
  have hv : VI .u64 (prod a a) = #[.int .u64 x0, .int .u64 x1, .int .u64 x2, .int .u64 x3, .int .u64 x4] := by rw [hxe]; rfl
  clear hpl hxe
  go_enter Try.func41, Try.ntmps41
  go_wp2_with (first | (go_at_call 29; refine (HQ.out.call _ HBW.out).mono ?_; rintro e W1 ⟨rfl, hQ⟩; have hp := HAW.out W1 (HQ.out.keep _ _ HBW.out hQ); obtain ⟨a0, a1, a2, a3, a4, hae, ha0, ha1, ha2, ha3, ha4, _, _, _, _, _⟩ := row5 hp.ha HA.out.len; have HP : Hid (BW w.heap.size W1 a W1) := hp; have HD : Hid (∀ w', Grow (fun k => w.heap.size ≤ k ∧ k < w.heap.size + 2) W1 w' → Opd Q w w') := (fun w' hg => ⟨W, W1, HBW.out, hQ, hg.mono (fun k hk => by rw [HS.out]; exact hk)⟩); clear hp HAW hQ hW' HQ HBW HS) | (go_at_call 59; have hpr := product_any a (a) HA.out HLB.out W1; rw [hv] at hpr; rw [hae.out] at hpr; refine hpr.mono ?_; rintro e w2 ⟨rfl, hb2⟩; have hr2 := row_below HP.out.hr hb2; obtain ⟨_, _, _, _, _, _, hy0, hy1, hy2, hy3, hy4, hz0, hz1, hz2, hz3, hz4⟩ := row5 hr2 (by simp); have HR2 : Hid (rowAt w2 (w.heap.size + 1) (List.replicate 5 0) 47) := hr2; have HB2 : Hid (Below W1.heap.size W1 w2) := hb2; clear hr2 hb2 hpr))
  refine bodyPost_ret (v := .agg (VI .u64 [x0, x1, x2, x3, x4])) ?_ rfl ⟨by rw [hv]; rfl, HD.out _ ((((((HP.out.grow.bel HB2.out).setCell ?_ _).setCell ?_ _).setCell ?_ _).setCell ?_ _).setCell ?_ _)⟩
  · exact results_cell_row (P := Try.prog) (fn := Try.f41) (p := 4) (ty := 47) rfl _ _ (w.heap.size + 1) 47 (VI .u64 [x0, x1, x2, x3, x4]) (0, 0) _ rfl (store5 HR2.out x0 x1 x2 x3 x4) Try.underlying47 rfl infoE
  all_goals (left; simp)
set_option maxRecDepth 100000 in
set_option maxHeartbeats 4000000 in
theorem scale_any (rv : Value) (a : List Int) (n : Int) (n0 : 0 ≤ n) (n1 : n < 4294967296) (ha : Lim a) (w : World) (Q : World → World → Prop) (hq : Opc rv 5 w Q) :
    Calls Try.prog 42 #[rv, .agg (VI .u64 a), .int .u32 n] w fun e w' => e = .returned (.agg (VI .u64 (prod a [n, 0, 0, 0, 0]))) ∧ Opd Q w w' := by
  have HA : Hid (Lim a) := ha
  have HQ : Hid (Opc rv 5 w Q) := hq
  obtain ⟨r1, r2, hs, hbw⟩ := alloc2_rows w a
  obtain ⟨W, hW⟩ : ∃ W, (w.alloc (.cells (VI .u64 a) 47)).alloc (.cells (VI .u64 (List.replicate 5 0)) 47) = W := ⟨_, rfl⟩
  have hW' : (w.alloc (.cells (VI .u64 a) 47)).alloc (.cells #[.int .u64 0, .int .u64 0, .int .u64 0, .int .u64 0, .int .u64 0] 47) = W := hW
  rw [hW] at r1 r2 hs hbw
  have HS : Hid (W.heap.size = w.heap.size + 2) := hs
  have HBW : Hid (Below w.heap.size w W) := hbw
  have HAW : Hid (∀ W1, Grow (fun k => k < w.heap.size) W W1 → BW w.heap.size W1 a W1) := fun W1 hg => BW.start r1 r2 hs hg
  have hlb : Lim ([n, 0, 0, 0, 0]) := ⟨rfl, by simp; omega⟩
  have HLB : Hid (Lim ([n, 0, 0, 0, 0])) := hlb
  have hpl := (prod_lim ha hlb).len
  clear hW r1 r2 hs hbw hq ha hlb
  obtain ⟨x0, x1, x2, x3, x4, hxe⟩ := five hpl
  have hv : VI .u64 (prod a [n, 0, 0, 0, 0]) = #[.int .u64 x0, .int .u64 x1, .int .u64 x2, .int .u64 x3, .int .u64 x4] := by rw [hxe]; rfl
  clear hpl hxe
  go_enter Try.func42, Try.ntmps42
  go_wp2_with (first | (go_at_call 29; refine (HQ.out.call _ HBW.out).mono ?_; rintro e W1 ⟨rfl, hQ⟩; have hp := HAW.out W1 (HQ.out.keep _ _ HBW.out hQ); obtain ⟨a0, a1, a2, a3, a4, hae, ha0, ha1, ha2, ha3, ha4, _, _, _, _, _⟩ := row5 hp.ha HA.out.len; have HP : Hid (BW w.heap.size W1 a W1) := hp; have HD : Hid (∀ w', Grow (fun k => w.heap.size ≤ k ∧ k < w.heap.size + 2) W1 w' → Opd Q w w') := (fun w' hg => ⟨W, W1, HBW.out, hQ, hg.mono (fun k hk => by rw [HS.out]; exact hk)⟩); clear hp HAW hQ hW' HQ HBW HS) | (go_at_call 59; have hpr := product_any a ([n, 0, 0, 0, 0]) HA.out HLB.out W1; rw [hv] at hpr; rw [hae.out] at hpr; refine hpr.mono ?_; rintro e w2 ⟨rfl, hb2⟩; have hr2 := row_below HP.out.hr hb2; obtain ⟨_, _, _, _, _, _, hy0, hy1, hy2, hy3, hy4, hz0, hz1, hz2, hz3, hz4⟩ := row5 hr2 (by simp); have HR2 : Hid (rowAt w2 (w.heap.size + 1) (List.replicate 5 0) 47) := hr2; have HB2 : Hid (Below W1.heap.size W1 w2) := hb2; clear hr2 hb2 hpr))
  refine bodyPost_ret (v := .agg (VI .u64 [x0, x1, x2, x3, x4])) ?_ rfl ⟨by rw [hv]; rfl, HD.out _ ((((((HP.out.grow.bel HB2.out).setCell ?_ _).setCell ?_ _).setCell ?_ _).setCell ?_ _).setCell ?_ _)⟩
  · exact results_cell_row (P := Try.prog) (fn := Try.f42) (p := 6) (ty := 47) rfl _ _ (w.heap.size + 1) 47 (VI .u64 [x0, x1, x2, x3, x4]) (0, 0) _ rfl (store5 HR2.out x0 x1 x2 x3 x4) Try.underlying47 rfl infoE
  all_goals (left; simp)
end Go.Proofs.Ytacofgmnmofkpaa
namespace Go.Proofs.Ytacofgmnmofkpaa
set_option linter.unusedSimpArgs false
open Go.ChangeShapes Go.WideShapes Go.ChangeAt Go.RowKit Go.Pin Go.Fld
/-- four times the prime -/
def four : List Int := [9007199254740916, 9007199254740988, 9007199254740988, 9007199254740988, 9007199254740988]
theorem four_bd : ∀ x ∈ four, 9007199254740916 ≤ x ∧ x < 9007199254740989 := by decide
def subL (a b : List Int) : List Int := List.zipWith (· + ·) a (List.zipWith (· - ·) four b)
theorem sub_lim {a b : List Int} (ha : Lim a) (hb : Lim b) : (subL a b).length = 5 ∧ ∀ x ∈ subL a b, 0 ≤ x ∧ x < 1152921504606846976 := by
  have hf : four.length = 5 := rfl
  refine ⟨by simp [subL, ha.len, hb.len, hf], fun x hx => ?_⟩
  obtain ⟨i, hi, rfl⟩ := List.getElem_of_mem hx
  have hi' : i < 5 := by simpa [subL, ha.len, hb.len, hf] using hi
  have ga := ha.bd _ (List.getElem_mem (l := a) (n := i) (by rw [ha.len]; exact hi'))
  have gb := hb.bd _ (List.getElem_mem (l := b) (n := i) (by rw [hb.len]; exact hi'))
  have gf := four_bd _ (List.getElem_mem (l := four) (n := i) (by rw [hf]; exact hi'))
  simp only [subL, List.getElem_zipWith]
  omega
theorem AW.below {n : Nat} {W' wr w2 : World} {x b : List Int} (h : AW n W' x b wr) (hb : Below wr.heap.size wr w2) : AW n W' x b w2 :=
  ⟨h.grow.bel hb, Nat.le_trans h.sz hb.size, row_below h.ha hb, row_below h.hb hb, row_below h.hr hb⟩
set_option maxRecDepth 100000 in
set_option maxHeartbeats 4000000 in
theorem sub_any (rv : Value) (a b : List Int) (ha : Lim a) (hb : Lim b) (w : World) (Q : World → World → Prop) (hq : Opc rv 2 w Q) :
    Calls Try.prog 37 #[rv, .agg (VI .u64 a), .agg (VI .u64 b)] w fun e w' => e = .returned (.agg (VI .u64 (stl (subL a b)))) ∧ Opd Q w w' := by
  have HA : Hid (Lim a) := ha
  have HB : Hid (Lim b) := hb
  have HQ : Hid (Opc rv 2 w Q) := hq
  clear ha hb hq
  obtain ⟨r1, r2, r3, hs, hbw⟩ := alloc3_rows w a b
  obtain ⟨W, hW⟩ : ∃ W, ((w.alloc (.cells (VI .u64 a) 47)).alloc (.cells (VI .u64 b) 47)).alloc (.cells (VI .u64 (List.replicate 5 0)) 47) = W := ⟨_, rfl⟩
  have hW' : ((w.alloc (.cells (VI .u64 a) 47)).alloc (.cells (VI .u64 b) 47)).alloc (.cells #[.int .u64 0, .int .u64 0, .int .u64 0, .int .u64 0, .int .u64 0] 47) = W := hW
  rw [hW] at r1 r2 r3 hs hbw
  have HS : Hid (W.heap.size = w.heap.size + 3) := hs
  have HBW : Hid (Below w.heap.size w W) := hbw
  have HAW : Hid (∀ W1, Grow (fun k => k < w.heap.size) W W1 → AW w.heap.size W1 a b W1) := fun W1 hg => AW.start r1 r2 r3 hs hg
  clear hW r1 r2 r3 hs hbw
  go_enter Try.func37, Try.ntmps37
  go_wp2_with (go_at_call 29; refine (HQ.out.call _ HBW.out).mono ?_; rintro e W1 ⟨rfl, hQ⟩)
  have HAW1 : Hid (AW w.heap.size W1 a b W1) := HAW.out W1 (HQ.out.keep _ _ HBW.out hQ)
  have HD : Hid (∀ w', Grow (fun k => w.heap.size ≤ k ∧ k < w.heap.size + 3) W1 w' → Opd Q w w') := fun w' hg => ⟨W, W1, HBW.out, hQ, hg.mono (fun k hk => by rw [HS.out]; exact hk)⟩
  clear HAW hQ hW' HQ HBW HS
  clear W
  have hrF : rowAt (W1.alloc (.cells (VI .u64 four) 45)) W1.heap.size four 45 := by simp only [rowAt, heap_alloc_any, if_true]
  have HAF : Hid (AW w.heap.size W1 a b (W1.alloc (.cells (VI .u64 four) 45))) := HAW1.out.below ((Below.refl _ _).alloc (Nat.le_refl _) _)
  have HF0 : Hid (rowAt (W1.alloc (.cells (VI .u64 four) 45)) W1.heap.size four 45) := hrF
  have HFn : Hid (w.heap.size + 3 ≤ W1.heap.size) := HAW1.out.sz
  clear hrF HAW1
  obtain ⟨F, hF⟩ : ∃ F, W1.heap.size = F := ⟨_, rfl⟩
  rw [hF] at HF0 HFn
  go_wp2
  obtain ⟨zl, zb⟩ := sub_lim HA.out HB.out
  have HZ : Hid (∀ x ∈ subL a b, 0 ≤ x ∧ x < 1152921504606846976) := zb
  clear zb
  go_loopw [12] (fun i w' => ∃ k : Nat, k ≤ 5 ∧ i = .int .i64 k ∧ (AW w.heap.size W1 ((subL a b).take k ++ a.drop k) b w' ∧ rowAt w' F four 45)) (fun i _ => 5 - (intOf i).toNat)
  case atStart => exact ⟨0, Nat.zero_le _, rfl, HAF.out, HF0.out⟩
  case round =>
    clear HAF HF0
    obtain ⟨k, hk, rfl, hp, hpF⟩ := hrel
    by_cases hlt : k < 5
    · have hka : k < a.length := by rw [HA.out.len]; exact hlt
      have hkb : k < b.length := by rw [HB.out.len]; exact hlt
      have hkz : k < (subL a b).length := by rw [zl]; exact hlt
      have hca := row_cell hp.ha (i := k) (by simp; omega)
      rw [List.getD_eq_getElem?_getD, get_step _ _ _ hkz hka] at hca
      have hcb := row_cell hp.hb (i := k) hkb
      rw [List.getD_eq_getElem?_getD, List.getElem?_eq_getElem hkb, Option.getD_some] at hcb
      have hkf : k < four.length := hlt
      have hcf := row_cell hpF (i := k) hkf
      rw [List.getD_eq_getElem?_getD, List.getElem?_eq_getElem hkf, Option.getD_some] at hcf
      obtain ⟨xf0, xf1⟩ := four_bd _ (List.getElem_mem hkf)
      have hfz : wr.frozen? ⟨w.heap.size, k, none⟩ = false := frozen_of_row wr _ _ _ _ hp.ha
      obtain ⟨xa0, xa1⟩ := HA.out.bd _ (List.getElem_mem hka)
      obtain ⟨xb0, xb1⟩ := HB.out.bd _ (List.getElem_mem hkb)
      have hst := hp.set k (a[k] + (four[k] - b[k]))
      have hz : (subL a b)[k] = a[k] + (four[k] - b[k]) := by simp only [subL, List.getElem_zipWith]
      rw [← hz, set_step _ _ _ hkz hka, hz] at hst
      have HST : Hid (AW w.heap.size W1 ((subL a b).take (k + 1) ++ a.drop (k + 1)) b (wr.setCell ⟨w.heap.size, k, none⟩ (.int .u64 (a[k] + (four[k] - b[k]))))) := hst
      have HRF : Hid (∀ v, rowAt (wr.setCell ⟨w.heap.size, k, none⟩ v) F four 45) := fun v => row_other hpF (by have := HFn.out; show F ≠ w.heap.size; omega) _
      clear hp hst hz hpF
      generalize four[k] = fk at *
      generalize a[k] = ak at *
      generalize b[k] = bk at *
      go_wp2
      go_region
      go_wp2
      go_roundw
      case rel => exact ⟨k + 1, by omega, by go_num, HST.out.drew, HRF.out _⟩
      case measure => simp [intOf]; omega
    · have hk' : k = 5 := by omega
      subst hk'
      rw [List.take_of_length_le (by omega), List.drop_of_length_le (by rw [HA.out.len]; omega), List.append_nil] at hp
      have HP : Hid (AW w.heap.size W1 (subL a b) b wr) := hp
      clear hp hpF
      go_wp2_with (go_at_call 57; refine (settle_any w.heap.size 47 (subL a b) zl HZ.out wr HP.out.ha).mono ?_; rintro e w2 ⟨rfl, hU⟩; have hp2 := HP.out.up hU; obtain ⟨x0, x1, x2, x3, x4, hxe, hx0, hx1, hx2, hx3, hx4, _, _, _, _, _⟩ := row5 hp2.ha (stl_lim _ zl HZ.out).1.len; obtain ⟨_, _, _, _, _, _, hy0, hy1, hy2, hy3, hy4, hz0, hz1, hz2, hz3, hz4⟩ := row5 hp2.hr (by simp); have HP2 : Hid (AW w.heap.size W1 (stl (subL a b)) b w2) := hp2; clear hp2 hU)
      refine bodyPost_ret (v := .agg (VI .u64 [x0, x1, x2, x3, x4])) ?_ rfl ⟨by rw [hxe.out], HD.out _ (((((HP2.out.grow.setCell ?_ _).setCell ?_ _).setCell ?_ _).setCell ?_ _).setCell ?_ _)⟩
      · exact results_cell_row (P := Try.prog) (fn := Try.f37) (p := 6) (ty := 47) rfl _ _ (w.heap.size + 1 + 1) 47 (VI .u64 [x0, x1, x2, x3, x4]) (0, 0) _ rfl (store5 HP2.out.hr x0 x1 x2 x3 x4) Try.underlying47 rfl infoE
      all_goals (left; simp; omega)
end Go.Proofs.Ytacofgmnmofkpaa
