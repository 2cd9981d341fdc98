import Derived.Test.YtgcijghhgcegcaaMask
import Derived.BigFrame
import Derived.Lib.SlBytesConst
import Derived.Laws.BytesString
namespace Go.Proofs.Ytgcijghhgcegcaa
open Go.RowKit Go.Pin
theorem load_row_w {P : Program} {ops : Array Oper} {rest : List Oper} {o : Oper} {a : Act} {w : World} {Q : Exit → Act → World → Prop} (hw : Region.wanted o (yielded ops a.tmps) = true) (ty : TypeId) (x : Operand) (ho : o.op = .load ty x)
    (g : Nat) (hx : a.eval x = .pointer (some ⟨g, 0, none⟩)) (t : TypeId) (cs : Array Value) (fr : Nat × Nat) (d : TypeDesc) (hg : w.heap[g]? = some (.cells cs t fr))
    (hu : P.underlying ty = some d) (hd : (match d with | .struct _ | .array _ _ => true | _ => false) = true) (hi : (P.info? ty).map (·.size) = some cs.size)
    (h : wpList P ops Q rest (a.put o.dst (.agg cs)) w) : wpList P ops Q (o :: rest) a w :=
  BigFrame.wpList_want hw fun _ hK => wp_load_row ty x ho g hx t cs fr d hg hu hd hi (hK _ _ h)
theorem store_row_new {P : Program} {ops : Array Oper} {rest : List Oper} {o : Oper} {a : Act} {w : World} {Q : Exit → Act → World → Prop} (hgd : o.guard = none) (ty : TypeId) (x y : Operand) (ho : o.op = .store ty x y)
    (g : Nat) (cells : Array Value) (hx : a.eval x = .pointer (some ⟨g, 0, none⟩)) (hg : g = w.heap.size) (hy : a.eval y = .agg cells)
    (t : TypeId) (old : Array Value) (hi : (P.info? ty).map (·.size) = some cells.size)
    (hold : old.size = cells.size) (h1 : cells.all (·.oneCell') = true)
    (h : wpList P ops Q rest (a.put o.dst undef) (w.alloc (.cells cells t))) : wpList P ops Q (o :: rest) a (w.alloc (.cells old t)) := by
  subst hg
  refine wpList_store_row hgd ty x y ho _ cells hx hy t old (heap_alloc_new w _) hi hold h1 ?_
  rw [World.setRow_alloc_new]
  exact h
def z16 : List Int := [0, 0, 0, 0, 0, 0, 0, 0, 0, 0, 0, 0, 0, 0, 0, 0]
def z15 : List Int := [0, 0, 0, 0, 0, 0, 0, 0, 0, 0, 0, 0, 0, 0, 0, 1]
structure KW (n : Nat) (a b : List Int) (W : World) : Prop where
  size : n + 5 ≤ W.heap.size
  t : W.heap[n]? = some (.cells (VI .u8 z16) 30 (0, 0))
  u : W.heap[n + 1]? = some (.cells (VI .u8 z15) 30 (0, 0))
  a : W.heap[n + 1 + 1]? = some (.cells (VI .u64 a) 37 (0, 0))
  b : W.heap[n + 1 + 1 + 1]? = some (.cells (VI .u64 b) 37 (0, 0))
  s : ∀ j, j < 5 → W.cell? ⟨n + 4, j, none⟩ = some (.int .u8 0)
theorem KW.below {n : Nat} {a b : List Int} {W W' : World} (h : KW n a b W) (hb : Below W.heap.size W W') : KW n a b W' := by
  have hs := h.size
  have hz := hb.size
  exact ⟨by omega, (hb.block _ (by omega)).trans h.t, (hb.block _ (by omega)).trans h.u, (hb.block _ (by omega)).trans h.a, (hb.block _ (by omega)).trans h.b, fun j hj => (hb.cell (p := ⟨n + 4, j, none⟩) (by show n + 4 < _; omega)).trans (h.s j hj)⟩
theorem sw_known : sw (spread64 1) [1, 2, 3, 4, 5] [6, 7, 8, 9, 10] 5 = ([6, 7, 8, 9, 10], [1, 2, 3, 4, 5]) := by
  rw [sw_eq 1 (by decide) (by decide) _ _ 5 rfl rfl (by decide) (by decide)]
  rfl
theorem but_setCells (b : Nat) : ∀ (vs : List Value) (o : Nat) (w : World), But (fun k => k = b) w (w.setCells b o vs)
  | [], _, w => But.refl _ w
  | v :: r, o, w => by
    rw [World.setCells]
    have h1 := (But.refl (fun k => k = b) w).setCell (p := ⟨b, o, none⟩) rfl v
    have h2 := but_setCells b r (o + 1) (w.setCell ⟨b, o, none⟩ v)
    exact ⟨h2.os.trans h1.os, h2.tape.trans h1.tape, h2.output.trans h1.output, h2.size.trans h1.size, fun k hk => (h2.block k hk).trans (h1.block k hk)⟩
def kk (n : Int) : List Int := [n, 0, 0, 0, 0, 0, 0, 0, 0, 0, 0, 0, 0, 0, 0, 0, 0, 0, 0, 0, 0, 0, 0, 0, 0, 0, 0, 0, 0, 0, 0, 0]
theorem str5 (n : Nat) (w : World) (h : ∀ j, j < 5 → w.cell? ⟨n, j, none⟩ = some (.int .u8 0)) :
    (convert 41 9 (.slice (some ⟨n, 0, none⟩) 5 5)).run Try.prog w = .ok (.string ⟨#[0, 0, 0, 0, 0]⟩) w := by
  rw [run_convert_bytes_string w 41 9 5 _ _ _ Try.underlying41 Try.underlying5 Try.underlying9]
  rw [run_bytesToString w _ 5 5 [0, 0, 0, 0, 0]]
  · rfl
  · have := run_loadCells_list (P := Try.prog) w ⟨n, 0, none⟩ (List.map (Value.int .u8) [0, 0, 0, 0, 0]) (fun j v hv => by
      have hadd : (⟨n, 0, none⟩ : Addr).add j = ⟨n, j, none⟩ := by unfold Addr.add; split <;> simp_all
      have hj : j < 5 := (List.getElem?_eq_some_iff.1 hv).1
      rw [hadd, h j hj, ← hv]
      rcases j with _ | _ | _ | _ | _ | j <;> first | rfl | omega)
    exact this
set_option maxRecDepth 100000 in
set_option maxHeartbeats 1000000 in
theorem known_any (w : World) :
    Calls Try.prog 8 #[] w fun e w' => e = .returned (.bool true) ∧ Below w.heap.size w w' := by
  go_enter Try.func8, Try.ntmps8
  go_wp2_with (first | (refine wpList_load_row rfl 30 _ rfl _ rfl 30 _ (0, 0) _ (heap_alloc_new w _) Try.underlying30 rfl (by kernel_rfl) ?_) | (refine store_row_new rfl _ _ _ rfl _ _ rfl ?_ rfl _ _ (by kernel_rfl) rfl rfl ?_ <;> first | (simp; done) | skip))
  generalize hW : World.alloc _ _ = W
  have h1 : Below w.heap.size w W := by
    rw [← hW]
    exact ((((Below.refl _ _).alloc (Nat.le_refl _) _).alloc (by simp) _).alloc (by simp; omega) _).alloc (by simp; omega) _
  have h2 : W.heap.size = w.heap.size + 4 := by rw [← hW]; simp
  have h3 : W.heap[w.heap.size]? = some (.cells (VI .u8 z16) 30 (0, 0)) := by
    rw [← hW, heap_alloc_any, if_neg (by simp; omega)]; exact heap3_0 _ _ _ _
  have h4 : W.heap[w.heap.size + 1]? = some (.cells (VI .u8 z15) 30 (0, 0)) := by
    rw [← hW, heap_alloc_any, if_neg (by simp)]; exact heap3_1 _ _ _ _
  have h5 : SW (w.heap.size + 1 + 1) (w.heap.size + 1 + 1 + 1) W W [1, 2, 3, 4, 5] [6, 7, 8, 9, 10] := by
    refine ⟨But.refl _ _, ?_, ?_⟩
    · rw [← hW, heap_alloc_any, if_neg (by simp)]; exact heap3_2 _ _ _ _
    · rw [← hW, heap_alloc_any, if_pos (by simp)]; rfl
  clear hW
  refine (swap_two 1 _ _ (by omega) [1, 2, 3, 4, 5] [6, 7, 8, 9, 10] rfl rfl W h5).mono ?_
  rintro e w1 ⟨rfl, hs⟩
  rw [sw_known] at hs
  have g1 : Below w.heap.size w w1 := h1.trans (hs.but.below (fun k hk => by omega))
  have g2 : w1.heap.size = w.heap.size + 4 := by rw [hs.but.size, h2]
  have g3 := (hs.but.block w.heap.size (by omega)).trans h3
  have g4 := (hs.but.block (w.heap.size + 1) (by omega)).trans h4
  have g5 := hs.a
  have g6 := hs.b
  have HG : Hid _ := And.intro g1 (And.intro g2 (And.intro g3 (And.intro g4 (And.intro g5 g6))))
  clear h1 h2 h3 h4 h5 hs g1 g2 g3 g4 g5 g6
  have hcv := fun (w : World) (C : Array Value) (n c : Nat) => Lib.run_convert_bytes_const (P := Try.prog) w 41 5 C n c Try.underlying41 Try.underlying5
  go_wp2_with fail
  have hnew := heap_alloc_new w1 (.cells #[.int .u8 99, .int .u8 114, .int .u8 97, .int .u8 116, .int .u8 101] 5 (5, 6))
  have hold : ∀ k, k < w1.heap.size → (w1.alloc (.cells #[.int .u8 99, .int .u8 114, .int .u8 97, .int .u8 116, .int .u8 101] 5 (5, 6))).heap[k]? = w1.heap[k]? := fun k hk => by rw [heap_alloc_any, if_neg (by omega)]
  refine (wipe_some w1.heap.size 0 5 5 (by decide) _ ?_ ?_).mono ?_
  · intro j hj
    rw [cell_of_row _ _ _ _ _ _ hnew]
    simp; omega
  · intro j hj
    simp only [World.frozen?, hnew]
    simp
    try omega
  rintro e w2 ⟨rfl, hw2⟩
  obtain ⟨g1, g2, g3, g4, g5, g6⟩ := HG.out
  have hbut := but_setCells w1.heap.size (List.replicate 5 (.int .u8 0)) 0 (w1.alloc (.cells #[.int .u8 99, .int .u8 114, .int .u8 97, .int .u8 116, .int .u8 101] 5 (5, 6)))
  have hcells := World.cell?_setCells_in w1.heap.size (List.replicate 5 (.int .u8 0)) 0 (w1.alloc (.cells #[.int .u8 99, .int .u8 114, .int .u8 97, .int .u8 116, .int .u8 101] 5 (5, 6))) (fun j hj => by
    rw [cell_of_row _ _ _ _ _ _ hnew]
    simp at hj ⊢; omega)
  have hK : KW w.heap.size [6, 7, 8, 9, 10] [1, 2, 3, 4, 5] w2 := by
    rw [hw2]
    refine ⟨by rw [hbut.size]; simp; omega, ?_, ?_, ?_, ?_, ?_⟩
    · rw [hbut.block _ (by omega), hold _ (by omega)]; exact g3
    · rw [hbut.block _ (by omega), hold _ (by omega)]; exact g4
    · rw [hbut.block _ (by omega), hold _ (by omega)]; exact g5
    · rw [hbut.block _ (by omega), hold _ (by omega)]; exact g6
    · intro j hj
      have := hcells j (by simpa using hj)
      rw [← g2]
      rw [List.getElem_replicate, Nat.zero_add] at this
      exact this
  have hB : Below w.heap.size w w2 := by
    rw [hw2]
    exact (g1.alloc (by omega) _).trans (hbut.below (fun k hk => by omega))
  have HK : Hid _ := hK
  have HB : Hid _ := hB
  rw [g2]
  clear hw2 HG hK hB g1 g2 g3 g4 g5 g6 hbut hcells hnew hold hcv
  go_wp2_with fail
  refine (equal_any 7 7 w2 (by decide) (by decide) (by decide) (by decide)).mono ?_
  rintro e w' ⟨rfl, rfl⟩
  rw [show eqB 7 7 = 1 from rfl]
  go_wp2_with fail
  refine (less_any 7 8 _ (by decide) (by decide) (by decide) (by decide)).mono ?_
  rintro e w' ⟨rfl, rfl⟩
  rw [show ltB 7 8 = 1 from rfl]
  go_wp2_with fail
  refine (pick_any 1 5 9 _ (by decide) (by decide) (by decide) (by decide) (by decide) (by decide)).mono ?_
  rintro e w' ⟨rfl, rfl⟩
  rw [show pickI 1 5 9 = 5 from rfl]
  go_wp2_with fail
  refine (pick_any 0 5 9 _ (by decide) (by decide) (by decide) (by decide) (by decide) (by decide)).mono ?_
  rintro e w' ⟨rfl, rfl⟩
  rw [show pickI 0 5 9 = 9 from rfl]
  go_wp2_with (refine load_row_w rfl 30 _ rfl _ rfl 30 (VI .u8 z16) (0, 0) _ HK.out.t Try.underlying30 rfl info30 ?_)
  refine (tags_any z16 z16 rfl rfl (by decide) (by decide) _).mono ?_
  rintro e w3 ⟨rfl, hb3⟩
  rw [show eqL z16 z16 = 1 from rfl]
  have HK3 : Hid _ := HK.out.below hb3
  have HB3 : Hid _ := HB.out.trans (hb3.mono (by have := HK.out.size; omega))
  clear hb3 HK HB
  go_wp2_with (first | (refine load_row_w rfl 30 _ rfl _ rfl 30 (VI .u8 z16) (0, 0) _ HK3.out.t Try.underlying30 rfl info30 ?_) | (refine load_row_w rfl 30 _ rfl _ rfl 30 (VI .u8 z15) (0, 0) _ HK3.out.u Try.underlying30 rfl info30 ?_))
  refine (tags_any z16 z15 rfl rfl (by decide) (by decide) _).mono ?_
  rintro e w4 ⟨rfl, hb4⟩
  rw [show eqL z16 z15 = 0 from rfl]
  have HK4 : Hid _ := HK3.out.below hb4
  have HB4 : Hid _ := HB3.out.trans (hb4.mono (by have := HK3.out.size; omega))
  clear hb4 HK3 HB3
  go_wp2_with fail
  refine (keys_any (kk 3) (kk 3) rfl rfl (by decide) (by decide) _).mono ?_
  rintro e w5 ⟨rfl, hb5⟩
  rw [show eqL (kk 3) (kk 3) = 1 from rfl]
  have HK5 : Hid _ := HK4.out.below hb5
  have HB5 : Hid _ := HB4.out.trans (hb5.mono (by have := HK4.out.size; omega))
  clear hb5 HK4 HB4
  go_wp2_with fail
  refine (pickKey_any 3 (kk 1) (kk 2) (by decide) (by decide) rfl rfl (by decide) (by decide) _).mono ?_
  rintro e w6 ⟨rfl, hb6⟩
  rw [show pickL 3 (kk 1) (kk 2) = kk 1 from rfl]
  have HK6 : Hid _ := HK5.out.below hb6
  have HB6 : Hid _ := HB5.out.trans (hb6.mono (by have := HK5.out.size; omega))
  clear hb6 HK5 HB5
  have q1 : ∀ w, (Op.equalIn 10000 32 (.agg (VI .u8 (kk 1))) (.agg #[.int .u8 1, .int .u8 0, .int .u8 0, .int .u8 0, .int .u8 0, .int .u8 0, .int .u8 0, .int .u8 0, .int .u8 0, .int .u8 0, .int .u8 0, .int .u8 0, .int .u8 0, .int .u8 0, .int .u8 0, .int .u8 0, .int .u8 0, .int .u8 0, .int .u8 0, .int .u8 0, .int .u8 0, .int .u8 0, .int .u8 0, .int .u8 0, .int .u8 0, .int .u8 0, .int .u8 0, .int .u8 0, .int .u8 0, .int .u8 0, .int .u8 0, .int .u8 0])).run Try.prog w = .ok true w := fun w => run_equalIn_row w 9998 32 5 .u8 32 (kk 1) (kk 1) rfl rfl Try.underlying32 Try.underlying5 size5
  have q2 : ∀ w, (Op.equalIn 10000 37 (.agg (VI .u64 [6, 7, 8, 9, 10])) (.agg #[.int .u64 6, .int .u64 7, .int .u64 8, .int .u64 9, .int .u64 10])).run Try.prog w = .ok true w := fun w => run_equalIn_row w 9998 37 22 .u64 5 [6, 7, 8, 9, 10] [6, 7, 8, 9, 10] rfl rfl Try.underlying37 Try.underlying22 size22
  have q3 : ∀ w, (Op.equalIn 10000 37 (.agg (VI .u64 [1, 2, 3, 4, 5])) (.agg #[.int .u64 1, .int .u64 2, .int .u64 3, .int .u64 4, .int .u64 5])).run Try.prog w = .ok true w := fun w => run_equalIn_row w 9998 37 22 .u64 5 [1, 2, 3, 4, 5] [1, 2, 3, 4, 5] rfl rfl Try.underlying37 Try.underlying22 size22
  have q4 := str5 (w.heap.size + 4) w6 HK6.out.s
  go_wp2_with (first | (refine load_row_w rfl 37 _ rfl _ rfl 37 (VI .u64 [6, 7, 8, 9, 10]) (0, 0) _ HK6.out.a Try.underlying37 rfl info37 ?_) | (refine load_row_w rfl 37 _ rfl _ rfl 37 (VI .u64 [1, 2, 3, 4, 5]) (0, 0) _ HK6.out.b Try.underlying37 rfl info37 ?_))
  go_ret
  exact ⟨rfl, HB6.out⟩
theorem own : ownKnob Try.prog.godebug = none := by kernel_rfl
theorem laidOut : laidOutB Try.prog = true := by kernel_rfl
end Go.Proofs.Ytgcijghhgcegcaa
