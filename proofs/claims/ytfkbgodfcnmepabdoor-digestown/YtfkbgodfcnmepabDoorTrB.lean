import Derived.Test.YtfkbgodfcnmepabDoorTrA
import Derived.Maps.AppendAt
import Derived.Laws.LoneSync
namespace Go.Proofs.YtfkbgodfcnmepabDoor
set_option linter.unusedSimpArgs false
open Go.ChangeShapes Go.WideShapes Go.ChangeAt Go.RowKit Go.Pin
/-- all that lay there but the blocks of S lies as it lay; more may have come -/
structure Grow (S : Nat → Prop) (w w' : World) : Prop where
  os : w'.os = w.os
  tape : w'.tape = w.tape
  output : w'.output = w.output
  size : w.heap.size ≤ w'.heap.size
  block : ∀ k, k < w.heap.size → ¬ S k → w'.heap[k]? = w.heap[k]?
theorem Grow.below {S : Nat → Prop} {w w' : World} (h : Grow S w w') {B : Nat} (hS : ∀ k, S k → B ≤ k) (hB : B ≤ w.heap.size) : Below B w w' :=
  ⟨h.os, h.tape, h.output, h.size, fun k hk => h.block k (by omega) (fun hs => by have := hS k hs; omega)⟩
theorem Grow.of_below {S : Nat → Prop} {w w' : World} (h : Below w.heap.size w w') : Grow S w w' := ⟨h.os, h.tape, h.output, h.size, fun k hk _ => h.block k hk⟩
theorem Grow.mono {S T : Nat → Prop} {w w' : World} (h : Grow S w w') (hT : ∀ k, S k → T k) : Grow T w w' := ⟨h.os, h.tape, h.output, h.size, fun k hk hn => h.block k hk (fun hs => hn (hT k hs))⟩
theorem Grow.trans {S : Nat → Prop} {a b c : World} (h : Grow S a b) (k : Grow S b c) : Grow S a c :=
  ⟨k.os.trans h.os, k.tape.trans h.tape, k.output.trans h.output, Nat.le_trans h.size k.size, fun i hi hn => (k.block i (Nat.lt_of_lt_of_le hi h.size) hn).trans (h.block i hi hn)⟩
theorem Grow.drewN {S : Nat → Prop} {a b : World} (h : Grow S a b) (n : Nat) : Grow S a (b.drewN n) := ⟨h.os, h.tape, h.output, h.size, h.block⟩
theorem Grow.owns {S : Nat → Prop} {w w' : World} (h : Grow S w w') {base : Nat} {e : TypeId} {size : Nat} {v : Value} {n : Nat} {xs : List Value} (ho : w.ownsRow base e size v n xs) (hn : ∀ k, v.ownBlock = some k → ¬ S k) : w'.ownsRow base e size v n xs := by
  refine ⟨ho.1, ?_⟩
  rcases ho.2 with h0 | ⟨g, cap, cur, rfl, hb, hg, hr⟩
  · exact .inl h0
  · exact .inr ⟨g, cap, cur, rfl, hb, (h.block g (Array.getElem?_eq_some_iff.1 hg).1 (hn g rfl)).trans hg, hr⟩
theorem owns_mono {w : World} {b b' : Nat} (hb : b' ≤ b) {e : TypeId} {size : Nat} {v : Value} {n : Nat} {xs : List Value} (ho : w.ownsRow b e size v n xs) : w.ownsRow b' e size v n xs := by
  refine ⟨ho.1, ?_⟩
  rcases ho.2 with h0 | ⟨g, cap, cur, rfl, hb', hr⟩
  · exact .inl h0
  · exact .inr ⟨g, cap, cur, rfl, Nat.le_trans hb hb', hr⟩
/-- a row of one's own is a slice that reads so -/
theorem sl_of_owns {w : World} {b : Nat} {e : TypeId} {size : Nat} {v : Value} {n : Nat} {xs : List Value} (ho : w.ownsRow b e size v n xs) : Sl w v size xs n := by
  refine ⟨ho.1, ?_⟩
  rcases ho.2 with ⟨rfl, rfl⟩ | ⟨g, cap, cur, rfl, hb, hg, hnc, hcm, hcs, ht⟩
  · exact ⟨none, 0, rfl, Nat.le_refl _, .inl rfl⟩
  · refine ⟨_, cap, rfl, hnc, .inr ⟨g, 0, rfl, fun j x hx => ?_⟩⟩
    have := ho.cells (g := g) rfl j x hx
    rwa [add_mid] at this
theorem sl_grow {S : Nat → Prop} {w w' : World} (h : Grow S w w') {v : Value} {sz n : Nat} {cs : List Value} (hs : Sl w v sz cs n) (hn : ∀ k, v.ownBlock = some k → ¬ S k) : Sl w' v sz cs n := by
  obtain ⟨h1, a, c, rfl, hc, hr⟩ := hs
  refine ⟨h1, a, c, rfl, hc, ?_⟩
  rcases hr with h0 | ⟨b, o, rfl, hcs⟩
  · exact .inl h0
  · refine .inr ⟨b, o, rfl, fun j x hx => ?_⟩
    have hx' := hcs j x hx
    have hlt := World.block_lt_of_cell? w _ hx'
    have hb := h.block b hlt (hn b rfl)
    rw [World.cell?_of_block (a := ⟨b, o + j, none⟩) hb]
    exact hx'
theorem sl_below {w w' : World} (h : Below w.heap.size w w') {v : Value} {sz n : Nat} {cs : List Value} (hs : Sl w v sz cs n) : Sl w' v sz cs n :=
  sl_grow (S := fun _ => False) (Grow.of_below h) hs (fun _ _ h => h)
/-- a Recorder at block R, its list vs, which has logged l -/
def Rec (B : Nat) (w : World) (R : Nat) (vs : Value) (l : List (Int × Int)) : Prop :=
  B ≤ R ∧ w.heap[R]? = some (.cells #[vs, .int .i64 (l.length : Int)] 65 (0, 0)) ∧ w.ownsRow B 68 2 vs l.length (evC l)
def Blk (R : Nat) (vs : Value) : Nat → Prop := fun k => k = R ∨ vs.ownBlock = some k
theorem Rec.ge {B : Nat} {w : World} {R : Nat} {vs : Value} {l : List (Int × Int)} (h : Rec B w R vs l) : ∀ k, Blk R vs k → B ≤ k := by
  rintro k (rfl | hk)
  · exact h.1
  · exact (h.2.2.lt k hk).1
theorem Rec.lt {B : Nat} {w : World} {R : Nat} {vs : Value} {l : List (Int × Int)} (h : Rec B w R vs l) : ∀ k, Blk R vs k → k < w.heap.size := by
  rintro k (rfl | hk)
  · exact (Array.getElem?_eq_some_iff.1 h.2.1).1
  · exact (h.2.2.lt k hk).2
theorem Rec.grow {B : Nat} {w w' : World} {R : Nat} {vs : Value} {l : List (Int × Int)} {S : Nat → Prop} (h : Rec B w R vs l) (hg : Grow S w w') (hn : ∀ k, Blk R vs k → ¬ S k) : Rec B w' R vs l :=
  ⟨h.1, (hg.block R (h.lt R (.inl rfl)) (hn R (.inl rfl))).trans h.2.1, hg.owns h.2.2 (fun k hk => hn k (.inr hk))⟩
theorem Rec.below {B : Nat} {w w' : World} {R : Nat} {vs : Value} {l : List (Int × Int)} (h : Rec B w R vs l) (hg : Below w.heap.size w w') : Rec B w' R vs l :=
  h.grow (S := fun _ => False) (Grow.of_below hg) (fun _ _ h => h)
theorem Rec.mono {B B' : Nat} {w : World} {R : Nat} {vs : Value} {l : List (Int × Int)} (h : Rec B w R vs l) (hb : B' ≤ B) : Rec B' w R vs l :=
  ⟨Nat.le_trans hb h.1, h.2.1, owns_mono hb h.2.2⟩
theorem Rec.cell0 {B : Nat} {w : World} {R : Nat} {vs : Value} {l : List (Int × Int)} (h : Rec B w R vs l) : w.cell? ⟨R, 0, none⟩ = some vs := by simp [World.cell?, h.2.1]
theorem Rec.cell1 {B : Nat} {w : World} {R : Nat} {vs : Value} {l : List (Int × Int)} (h : Rec B w R vs l) : w.cell? ⟨R, 1, none⟩ = some (.int .i64 l.length) := by simp [World.cell?, h.2.1]
theorem Rec.froz {B : Nat} {w : World} {R : Nat} {vs : Value} {l : List (Int × Int)} (h : Rec B w R vs l) (j : Nat) : w.frozen? ⟨R, j, none⟩ = false := by simp [World.frozen?, h.2.1]
theorem two_set0 {w : World} {R : Nat} {a b : Value} {t : TypeId} (h : w.heap[R]? = some (.cells #[a, b] t (0, 0))) (a' : Value) : (w.setCell ⟨R, 0, none⟩ a').heap[R]? = some (.cells #[a', b] t (0, 0)) := by
  obtain ⟨hlt, hk⟩ := Array.getElem?_eq_some_iff.1 h
  show (w.heap.modify R _)[R]? = _
  rw [Array.getElem?_eq_getElem (by rw [Array.size_modify]; exact hlt), Array.getElem_modify_self, hk]
  rfl
theorem two_set1 {w : World} {R : Nat} {a b : Value} {t : TypeId} (h : w.heap[R]? = some (.cells #[a, b] t (0, 0))) (b' : Value) : (w.setCell ⟨R, 1, none⟩ b').heap[R]? = some (.cells #[a, b'] t (0, 0)) := by
  obtain ⟨hlt, hk⟩ := Array.getElem?_eq_some_iff.1 h
  show (w.heap.modify R _)[R]? = _
  rw [Array.getElem?_eq_getElem (by rw [Array.size_modify]; exact hlt), Array.getElem_modify_self, hk]
  rfl
/-- sync/atomic -/
theorem load_i64 {a : Addr} {x : Int} {w : World} (hc : w.cell? a = some (.int .i64 x)) : (callFunc 36 #[.pointer (some a)]).run Tryd.prog w = .ok (.value (.int .i64 x)) w :=
  run_call_load Tryd.func36 (by kernel_rfl) (by kernel_rfl) (by kernel_rfl) .i64 (by kernel_rfl) hc
theorem add_i64 {a : Addr} {x y : Int} {w : World} (hc : w.cell? a = some (.int .i64 x)) (hz : w.frozen? a = false) (h0 : -9223372036854775808 ≤ x + y) (h1 : x + y < 9223372036854775808) :
    (callFunc 46 #[.pointer (some a), .int .i64 y]).run Tryd.prog w = .ok (.value (.int .i64 (x + y))) (w.setCell a (.int .i64 (x + y))) :=
  run_call_add Tryd.func46 (by kernel_rfl) (by kernel_rfl) (by kernel_rfl) .i64 (by kernel_rfl) hc hz (by
    have : IntKind.i64.wrap (x + y) = x + y := by rw [IntKind.wrap_i64]; omega
    simp [go_sem, this])
set_option maxRecDepth 100000 in
theorem aLoad_any (R : Nat) (j : Nat) (x : Int) (w : World) (hc : w.cell? ⟨R, j, none⟩ = some (.int .i64 x)) :
    Calls Tryd.prog 23 #[.pointer (some ⟨R, j, none⟩)] w fun e w' => e = .returned (.int .i64 x) ∧ w' = w := by
  have hd := load_i64 hc
  go_enter Tryd.func23, Tryd.ntmps23
  go_wp2
  go_ret
  exact ⟨rfl, rfl⟩
set_option maxRecDepth 100000 in
theorem aAdd_any (R : Nat) (j : Nat) (x y : Int) (w : World) (hc : w.cell? ⟨R, j, none⟩ = some (.int .i64 x)) (hz : w.frozen? ⟨R, j, none⟩ = false) (h0 : -9223372036854775808 ≤ x + y) (h1 : x + y < 9223372036854775808) :
    Calls Tryd.prog 37 #[.pointer (some ⟨R, j, none⟩), .int .i64 y] w fun e w' => e = .returned (.int .i64 (x + y)) ∧ w' = w.setCell ⟨R, j, none⟩ (.int .i64 (x + y)) := by
  have hd := add_i64 hc hz h0 h1
  go_enter Tryd.func37, Tryd.ntmps37
  go_wp2
  go_ret
  exact ⟨rfl, rfl⟩
set_option maxRecDepth 100000 in
set_option maxHeartbeats 1000000 in
theorem rlog_any (B R : Nat) (vs : Value) (l : List (Int × Int)) (k v : Int) (w : World) (h : Rec B w R vs l) (hl : l.length ≤ 1000000) :
    Calls Tryd.prog 24 #[.pointer (some ⟨R, 0, none⟩), .int .i64 k, .int .i64 v] w fun e w' => e = .returned (.tuple #[]) ∧ ∃ vs', Rec B w' R vs' (l ++ [(k, v)]) ∧ Grow (Blk R vs) w w' ∧ (vs'.ownBlock = vs.ownBlock ∨ ∃ g, vs'.ownBlock = some g ∧ w.heap.size ≤ g) := by
  obtain ⟨i0, hi, hz0, hz1, hz2⟩ := info_parts info37
  have HI : Hid _ := And.intro hi (And.intro hz0 (And.intro hz1 hz2))
  have HR : Hid (Rec B w R vs l) := h
  have hc0 := h.cell0
  have hf0 := h.froz 0
  clear hi hz0 hz1 hz2 h
  go_enter Tryd.func24, Tryd.ntmps24
  go_wp2_with (first | (at_builtin; refine wpList_append_own_at _ rfl _ _ 58 rfl B 68 i0 (.agg #[.int .i64 0, .int .i64 0]) 2 16 Tryd.underlying58 HI.out.1 HI.out.2.1 HI.out.2.2.1 HI.out.2.2.2 rfl (by decide) _ l.length (evC l) rfl (HR.out.2.2.alloc _) ⟨w.heap.size, 0, none⟩ 1 1 [.int .i64 k, .int .i64 v] rfl rfl ?_ ?_ ?_ ?_ ?_ ?_))
  · intro j u hj
    match j, hj with
    | 0, hj => simp at hj; subst hj; simp [Addr.add]
    | 1, hj => simp at hj; subst hj; simp [Addr.add]
  · intro u hu
    simp at hu
    rcases hu with rfl | rfl <;> rfl
  · unfold maxLen; omega
  · omega
  · have := HR.out.lt R (.inl rfl)
    have := HR.out.1
    simp; omega
  · intro v' w1 hown' hgrow hnn hat
    obtain ⟨g', cap', rfl⟩ : ∃ g cap, v' = .slice (some ⟨g, 0, none⟩) (l.length + 1) cap := by
      rcases hown'.2 with ⟨_, h0⟩ | ⟨g, cap, _, rfl, _⟩
      · omega
      · exact ⟨g, cap, rfl⟩
    have hlt := HR.out.lt R (.inl rfl)
    have hne : some R ≠ vs.ownBlock := by
      intro e
      rcases HR.out.2.2.2 with ⟨rfl, _⟩ | ⟨g, cap, cur, rfl, _, hg, _⟩
      · simp [Value.ownBlock] at e
      · obtain rfl : R = g := by simpa [Value.ownBlock] using e
        have := HR.out.2.1.symm.trans hg
        simp at this
    have hw1 : w1.heap[R]? = some (.cells #[vs, .int .i64 (l.length : Int)] 65 (0, 0)) := by
      rw [hgrow.block R (by simp; omega) hne, heap_alloc_any, if_neg (by omega)]
      exact HR.out.2.1
    have hne' : g' ≠ R := by
      rintro rfl
      rcases hown'.2 with ⟨h0, _⟩ | ⟨g, cap, cur, he, _, hg, _⟩
      · cases h0
      · cases he
        rw [hw1] at hg
        simp at hg
    have c0 : w1.cell? ⟨R, 0, none⟩ = some vs := by simp [World.cell?, hw1]
    have f0 : w1.frozen? ⟨R, 0, none⟩ = false := by simp [World.frozen?, hw1]
    have hw2 := two_set0 hw1 (.slice (some ⟨g', 0, none⟩) (l.length + 1) cap')
    have c1 : (w1.setCell ⟨R, 0, none⟩ (.slice (some ⟨g', 0, none⟩) (l.length + 1) cap')).cell? ⟨R, 1, none⟩ = some (.int .i64 l.length) := by simp [World.cell?, hw2]
    have f1 : (w1.setCell ⟨R, 0, none⟩ (.slice (some ⟨g', 0, none⟩) (l.length + 1) cap')).frozen? ⟨R, 1, none⟩ = false := by simp [World.frozen?, hw2]
    have hw3 := two_set1 hw2 (.int .i64 (l.length + 1))
    have RR : Rec B ((w1.setCell ⟨R, 0, none⟩ (.slice (some ⟨g', 0, none⟩) (l.length + 1) cap')).setCell ⟨R, 1, none⟩ (.int .i64 (l.length + 1))) R (.slice (some ⟨g', 0, none⟩) (l.length + 1) cap') (l ++ [(k, v)]) := by
      refine ⟨HR.out.1, by rw [hw3, List.length_append]; rfl, ?_⟩
      rw [List.length_append, evC_app]
      refine ⟨hown'.1, ?_⟩
      rcases hown'.2 with ⟨h0, _⟩ | ⟨g, cap, cur, he, h2, hg, hr⟩
      · cases h0
      · cases he
        refine .inr ⟨g', cap', cur, rfl, h2, ?_, hr⟩
        rw [heap_setCell_other _ _ _ _ (by exact hne'), heap_setCell_other _ _ _ _ (by exact hne')]
        exact hg
    have GG : Grow (Blk R vs) w ((w1.setCell ⟨R, 0, none⟩ (.slice (some ⟨g', 0, none⟩) (l.length + 1) cap')).setCell ⟨R, 1, none⟩ (.int .i64 (l.length + 1))) := by
      refine ⟨hgrow.os, hgrow.tape, hgrow.output, ?_, ?_⟩
      · have := hgrow.size
        simp [World.setCell] at this ⊢
        omega
      · intro k hk hS
        rw [heap_setCell_other _ _ _ _ (by exact fun e => hS (.inl e)), heap_setCell_other _ _ _ _ (by exact fun e => hS (.inl e)), hgrow.block k (by simp; omega) (fun e => hS (.inr e.symm)), heap_alloc_any, if_neg (by omega)]
    have AT : (Value.slice (some ⟨g', 0, none⟩) (l.length + 1) cap').ownBlock = vs.ownBlock ∨ ∃ g, (Value.slice (some ⟨g', 0, none⟩) (l.length + 1) cap').ownBlock = some g ∧ w.heap.size ≤ g := by
      rcases hat with h | h
      · exact .inl h
      · exact .inr ⟨_, h, by simp⟩
    have HRR : Hid _ := RR
    have HGG : Hid _ := GG
    have HAT : Hid _ := AT
    have HC : Hid (∀ _ : Unit, _) := fun _ => aAdd_any R 1 l.length 1 _ c1 f1 (by omega) (by omega)
    clear hown' hgrow hnn hat RR GG AT hw1 hw2 hw3 c1 f1 hc0 hf0 HI hne hne'
    go_wp2_with (first | (go_at_call 37; refine (HC.out ()).mono ?_; rintro e w' ⟨rfl, rfl⟩))
    go_end0
    exact ⟨rfl, _, HRR.out, HGG.out, HAT.out⟩
end Go.Proofs.YtfkbgodfcnmepabDoor
