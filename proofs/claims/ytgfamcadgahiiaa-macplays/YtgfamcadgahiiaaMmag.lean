import Derived.Test.YtgfamcadgahiiaaMmaf
import Derived.Test.YtgfamcadgahiiaaMmae
namespace Go.Proofs.Ytgfamcadgahiiaa
set_option linter.unusedSimpArgs false
set_option linter.unusedVariables false
open Go.ChangeShapes Go.WideShapes Go.ChangeAt Go.RowKit Go.Pin Go.Prm
section
variable {α : Type} {a b c d e f : α} {l : List α}
theorem mem0 : a ∈ a :: l := List.mem_cons_self ..
theorem mem1 : b ∈ a :: b :: l := List.mem_cons_of_mem _ mem0
theorem mem2 : c ∈ a :: b :: c :: l := List.mem_cons_of_mem _ mem1
theorem mem3 : d ∈ a :: b :: c :: d :: l := List.mem_cons_of_mem _ mem2
theorem mem4 : e ∈ a :: b :: c :: d :: e :: l := List.mem_cons_of_mem _ mem3
theorem mem5 : f ∈ a :: b :: c :: d :: e :: f :: l := List.mem_cons_of_mem _ mem4
theorem memr1 (h : b ∈ l) : b ∈ a :: l := List.mem_cons_of_mem _ h
theorem memr2 (h : c ∈ l) : c ∈ a :: b :: l := List.mem_cons_of_mem _ (memr1 h)
theorem memr3 (h : d ∈ l) : d ∈ a :: b :: c :: l := List.mem_cons_of_mem _ (memr2 h)
theorem memr4 (h : e ∈ l) : e ∈ a :: b :: c :: d :: l := List.mem_cons_of_mem _ (memr3 h)
end
section
variable {B : Nat} {w : World} {rv : Value} {l : List (Int × Int)} {bx : List (Nat × Obj)} {W : World}
theorem row_there {g : Nat} {k : IntKind} {L : List Int} {T : TypeId} (h : W.heap[g]? = some (.cells (VI k L) T)) : W.there g 0 L.length := fun j hj => by
  refine ⟨?_, frozen_of_row W _ _ _ _ h⟩
  rw [Nat.zero_add, cell_of_row W _ _ _ _ _ h, VI_at _ _ _ hj]
  rfl
theorem row_range {g : Nat} {k : IntKind} {L : List Int} {T : TypeId} {fr : Nat × Nat} (h : W.heap[g]? = some (.cells (VI k L) T fr)) : W.rangeAt g 0 (L.map (Value.int k)) := by
  have := range_in (w := W) (g := g) (p := []) (q := L.map (Value.int k)) (t := []) (T := T) (fr := fr) (by simpa [VI] using h)
  exact this
theorem Ev.storeRow {g : Nat} {k : IntKind} {L L' : List Int} {T : TypeId} (h : Ev B w rv l ((g, .cells (VI k L) T) :: bx) W) (hne : ∀ p ∈ bx, p.1 ≠ g) (hl : L'.length = L.length) : Ev B w rv l ((g, .cells (VI k L') T) :: bx) (W.setCells g 0 (VI k L').toList) := by
  refine h.set rfl hne (grow_setCells g _ 0 W) ?_
  have h0 : W.heap[g]? = some (.cells ([] ++ (L.map (Value.int k) ++ [])).toArray T) := by simpa [VI] using h.row (List.mem_cons_self ..)
  have := heap_setCells_row g (L'.map (Value.int k)) _ _ _ W (by simpa using hl) h0
  simpa [VI] using this
/-- a whole row is stored into a box -/
theorem wp_storeBox {op : Oper} {a : Act} {K : Act → World → Prop} {Q : Exit → Act → World → Prop} {ty : TypeId} {x y : Operand} {g : Nat} {k : IntKind} {L L' : List Int} {T : TypeId} (h : Ev B w rv l ((g, .cells (VI k L) T) :: bx) W) (hne : ∀ p ∈ bx, p.1 ≠ g) (hl : L'.length = L.length) (hi : (Try.prog.info? ty).map (·.size) = some L.length)
    (ho : op.op = .store ty x y) (hd : op.dst = none) (hx : a.eval x = .pointer (some ⟨g, 0, none⟩)) (hy : a.eval y = .agg (VI k L')) (hK : ∀ w', Ev B w rv l ((g, .cells (VI k L') T) :: bx) w' → K a w') : Oper.wp Try.prog op a W K Q := by
  refine wp_store_mid (P := Try.prog) ty x y ho g 0 (VI k L') hx hy ?_ ?_ (VI_one _ _) ?_
  · rw [VI_size, hl]; exact row_there (h.row (List.mem_cons_self ..))
  · rw [VI_size, hl]; exact hi
  · rw [hd]; exact hK _ (h.storeRow hne hl)
end
theorem infoN : (Try.prog.info? 66).map (·.size) = some 5 := by kernel_rfl
theorem zero5_lit : VI .u64 (List.replicate 5 0) = #[.int .u64 0, .int .u64 0, .int .u64 0, .int .u64 0, .int .u64 0] := rfl
theorem zero17_lit : VI .u8 (List.replicate 17 0) = #[.int .u8 0, .int .u8 0, .int .u8 0, .int .u8 0, .int .u8 0, .int .u8 0, .int .u8 0, .int .u8 0, .int .u8 0, .int .u8 0, .int .u8 0, .int .u8 0, .int .u8 0, .int .u8 0, .int .u8 0, .int .u8 0, .int .u8 0] := rfl
theorem zero16_lit : VI .u8 (List.replicate 16 0) = #[.int .u8 0, .int .u8 0, .int .u8 0, .int .u8 0, .int .u8 0, .int .u8 0, .int .u8 0, .int .u8 0, .int .u8 0, .int .u8 0, .int .u8 0, .int .u8 0, .int .u8 0, .int .u8 0, .int .u8 0, .int .u8 0] := rfl
set_option maxRecDepth 100000 in
set_option maxHeartbeats 4000000 in
theorem with_any {B : Nat} {w : World} {rv : Value} {l : List (Int × Int)} {bx : List (Nat × Obj)} {W : World} (h : Ev B w rv l bx W) (hl : rv ≠ .pointer none → l.length ≤ 900000) {g : Nat} {r m s b : List Int} {hd : Nat} (hg : (g, macO rv r m s b hd) ∈ bx) (hM : MS r m s b) {sm bb : List Int} (hs : Lim sm) (hb : Key17 bb) :
    Calls Try.prog 38 #[.pointer (some ⟨g, 0, none⟩), .agg (VI .u64 sm), .agg (VI .u8 bb)] W fun e w' => e = .returned (.agg (VI .u64 (wth r sm bb))) ∧ Ev B w rv (l ++ tkl) bx w' := by
  obtain ⟨q, hq⟩ : ∃ q, W.heap.size = q := ⟨_, rfl⟩
  have e3 := ((h.new (.cells (VI .u64 sm) 66)).new (.cells (VI .u8 bb) 67)).new (.cells (VI .u64 (List.replicate 5 0)) 66)
  simp only [size_alloc, hq] at e3
  obtain ⟨W0, hW0⟩ : ∃ V, ((W.alloc (.cells (VI .u64 sm) 66)).alloc (.cells (VI .u8 bb) 67)).alloc (.cells (VI .u64 (List.replicate 5 0)) 66) = V := ⟨_, rfl⟩
  rw [hW0] at e3
  rw [zero5_lit] at hW0
  have hbxq : ∀ p ∈ bx, p.1 < q := fun p hp => by rw [← hq]; exact heap_lt (h.at' p hp)
  have E3 : Hid _ := e3
  have HM : Hid (MS r m s b) := hM
  have HL : Hid ((rv ≠ .pointer none → l.length ≤ 900000) ∧ Lim sm ∧ Key17 bb ∧ (g, macO rv r m s b hd) ∈ bx ∧ ∀ p ∈ bx, p.1 < q) := ⟨hl, hs, hb, hg, hbxq⟩
  clear e3 h hM hl hs hb hg hbxq
  have HI5 : Hid ((Try.prog.info? 66).map (·.size) = some (VI .u64 sm).size) := by
    have : (Try.prog.info? 66).map (·.size) = some (VI .u64 sm).size := by rw [VI_size, HL.out.2.1.len]; exact infoN
    exact this
  have HI17 : Hid ((Try.prog.info? 67).map (·.size) = some (VI .u8 bb).size) := HL.out.2.2.1.info
  go_enter Try.func38, Try.ntmps38
  go_upto_region 1 with fail
  refine wp_as (c' := rgWi1) (by kernel_rfl) ?_
  have hz0 : Lim (blk bb) := blk_lim HL.out.2.2.1.bd
  have hz1 := add_lim HL.out.2.1 hz0
  have hz2 := prod_lim hz1 HM.out.r
  refine Wi1 (g := g) (h := hd) (rv := rv) (r := r) (m := m) (s := s) (b := b) (p4 := q) (p5 := q + 1) (p6 := q + 1 + 1) (sm := sm) (bb := bb) (z0 := blk bb) (z1 := stl (List.zipWith (· + ·) sm (blk bb))) (z2 := wth r sm bb)
    (R0 := Ev B w rv l ((q + 1 + 1, .cells (VI .u64 (List.replicate 5 0)) 66) :: (q + 1, .cells (VI .u8 bb) 67) :: (q, .cells (VI .u64 sm) 66) :: bx))
    (R1 := Ev B w rv l ((q + 1 + 1, .cells (VI .u64 (List.replicate 5 0)) 66) :: (q + 1, .cells (VI .u8 bb) 67) :: (q, .cells (VI .u64 sm) 66) :: bx))
    (R2 := Ev B w rv (l ++ [(3, 11)]) ((q + 1 + 1, .cells (VI .u64 (List.replicate 5 0)) 66) :: (q + 1, .cells (VI .u8 bb) 67) :: (q, .cells (VI .u64 sm) 66) :: bx))
    (R3 := Ev B w rv (l ++ [(3, 11)] ++ [(3, 12)]) ((q + 1 + 1, .cells (VI .u64 (List.replicate 5 0)) 66) :: (q + 1, .cells (VI .u8 bb) 67) :: (q, .cells (VI .u64 sm) 66) :: bx))
    (R4 := Ev B w rv (l ++ [(3, 11)] ++ [(3, 12)]) ((q + 1 + 1, .cells (VI .u64 (wth r sm bb)) 66) :: (q + 1, .cells (VI .u8 bb) 67) :: (q, .cells (VI .u64 sm) 66) :: bx))
    HM HL.out.2.1.len HL.out.2.2.1.len E3.out.drew ?_ ?_ ?_ ?_ ?_ ?_ ?_ ?_ ?_ (fun _ _ d _ _ h => by cases d <;> exact h) ?_
  · exact fun Y h => ⟨h.row (memr3 HL.out.2.2.2.1), row_range (h.row mem2), row_range (h.row mem1)⟩
  · exact fun Y h => (block_any bb HL.out.2.2.1 Y).mono fun e w' hh => ⟨hh.1, h.below hh.2⟩
  · exact fun Y h => ⟨h.row (memr3 HL.out.2.2.2.1), row_range (h.row mem2), row_range (h.row mem1)⟩
  · exact fun Y h => v_add h (fun hr => by have := HL.out.1 hr; omega) HL.out.2.1 hz0
  · exact fun Y h => ⟨h.row (memr3 HL.out.2.2.2.1), row_range (h.row mem2), row_range (h.row mem1)⟩
  · exact fun Y h => v_mul h (fun hr => by have := HL.out.1 hr; simp; omega) hz1 HM.out.r
  · exact fun Y h => ⟨h.row (memr3 HL.out.2.2.2.1), row_range (h.row mem2), row_range (h.row mem1)⟩
  · intro Y h a o K Q ho hd hx hy hK
    refine wp_storeBox h ?_ (by rw [List.length_replicate]; exact hz2.len) (by rw [List.length_replicate]; exact infoN) ho hd hx hy hK
    intro p hp
    simp only [List.mem_cons] at hp
    rcases hp with rfl | rfl | hp
    · show q + 1 ≠ q + 1 + 1; omega
    · show q ≠ q + 1 + 1; omega
    · have := HL.out.2.2.2.2 p hp; omega
  · exact fun Y h => ⟨h.row (memr3 HL.out.2.2.2.1), row_range (h.row mem2), row_range (h.row mem1)⟩
  · intro W9 h9
    have hr9 := h9.row (List.mem_cons_self ..)
    have HF : Hid (Ev B w rv (l ++ tkl) bx W9) := by
      have h' := h9.sub (by' := bx) (fun p hp => by simp [hp])
      rw [List.append_assoc] at h'
      exact h'
    have HR9 : Hid (W9.heap[q + 1 + 1]? = some (.cells (VI .u64 (wth r sm bb)) 66)) := hr9
    have HI9 : Hid ((Try.prog.info? 66).map (·.size) = some (VI .u64 (wth r sm bb)).size) := by
      have : (Try.prog.info? 66).map (·.size) = some (VI .u64 (wth r sm bb)).size := by rw [VI_size]; exact hz2.len ▸ infoN
      exact this
    clear hr9 h9
    go_wp2
    refine bodyPost_ret (v := .agg (VI .u64 (wth r sm bb))) ?_ rfl ⟨rfl, HF.out⟩
    exact results_cell_row (P := Try.prog) (fn := Try.f38) (p := 6) (ty := 66) rfl _ _ (q + 1 + 1) 66 (VI .u64 (wth r sm bb)) (0, 0) _ rfl HR9.out Try.underlying66 rfl HI9.out
end Go.Proofs.Ytgfamcadgahiiaa
namespace Go.Proofs.Ytgfamcadgahiiaa
set_option linter.unusedSimpArgs false
set_option linter.unusedVariables false
open Go.ChangeShapes Go.WideShapes Go.ChangeAt Go.RowKit Go.Pin Go.Prm
theorem info_u8 : (Try.prog.info? 5).map (·.size) = some 1 := by kernel_rfl
theorem Ev.flip {B : Nat} {w : World} {rv : Value} {l : List (Int × Int)} {bx : List (Nat × Obj)} {W : World} {p q : Nat × Obj} (h : Ev B w rv l (p :: q :: bx) W) : Ev B w rv l (q :: p :: bx) W := h.sub (fun x hx => by
  simp only [List.mem_cons] at hx ⊢
  rcases hx with h | h | h
  · exact .inr (.inl h)
  · exact .inl h
  · exact .inr (.inr h))
theorem Ev.tail {B : Nat} {w : World} {rv : Value} {l : List (Int × Int)} {bx : List (Nat × Obj)} {W : World} {p : Nat × Obj} (h : Ev B w rv l (p :: bx) W) : Ev B w rv l bx W := h.sub (fun x hx => List.mem_cons_of_mem _ hx)
/-- bytes are copied into a part of a box -/
theorem Ev.copyInto {B : Nat} {w : World} {rv : Value} {l : List (Int × Int)} {bx : List (Nat × Obj)} {W : World} {g : Nat} {A X X' C : List Int} {T : TypeId} (h : Ev B w rv l ((g, .cells (VI .u8 (A ++ (X ++ C))) T) :: bx) W) (hne : ∀ p ∈ bx, p.1 ≠ g) (hl : X'.length = X.length) : Ev B w rv l ((g, .cells (VI .u8 (A ++ (X' ++ C))) T) :: bx) (W.setCells g A.length (X'.map (Value.int .u8))) := by
  refine h.set rfl hne (grow_setCells g _ _ W) ?_
  have h0 : W.heap[g]? = some (.cells (A.map (Value.int .u8) ++ (X.map (Value.int .u8) ++ C.map (Value.int .u8))).toArray T) := by simpa [VI] using h.row mem0
  have := heap_setCells_row g (X'.map (Value.int .u8)) _ _ _ W (by simpa using hl) h0
  simpa [VI] using this
theorem run_copyX {W : World} {gd od dl dc gs os sl sc : Nat} {X : List Int} (ty : TypeId) (hn : X.length = Nat.min sl dl) (hs : W.rangeAt gs os (X.map (Value.int .u8))) (ht : W.there gd od X.length) :
    (Builtin.copy_ #[30, 30] ty #[.slice (some ⟨gd, od, none⟩) dl dc, .slice (some ⟨gs, os, none⟩) sl sc]).run Try.prog W = .ok (.int .i64 (X.length : Int)) (W.setCells gd od (X.map (Value.int .u8))) := by
  have := run_copy_cells (P := Try.prog) W 30 30 ty 5 gd od dl dc ⟨gs, os, none⟩ sl sc (X.map (Value.int .u8)) Try.underlying30 info_u8 (by rw [List.length_map]; exact hn)
    (fun j v hv => by rw [add_mid]; exact hs j v hv) (fun j hj => (ht j (by simpa using hj)).1) (fun j hj => (ht j (by simpa using hj)).2) (fun v hv => by
      simp only [List.mem_map] at hv
      obtain ⟨x, _, rfl⟩ := hv
      rfl)
  rw [this, List.length_map]
  rfl
set_option maxRecDepth 100000 in
set_option maxHeartbeats 4000000 in
theorem take_any {B : Nat} {w : World} {rv : Value} {l : List (Int × Int)} {bx : List (Nat × Obj)} {W : World} {g : Nat} {r m s b : List Int} {hd : Nat} (h : Ev B w rv l ((g, macO rv r m s b hd) :: bx) W) (hne : ∀ p ∈ bx, p.1 ≠ g) (hl : rv ≠ .pointer none → l.length ≤ 900000) (hM : MS r m s b) {pb po : Nat} {X : List Int} (hX : X.length = 16) (hXb : Byt X) (hr : W.rangeAt pb po (X.map (Value.int .u8))) :
    Calls Try.prog 45 #[.pointer (some ⟨g, 0, none⟩), .pointer (some ⟨pb, po, none⟩)] W fun e w' => e = .returned (.tuple #[]) ∧ Ev B w rv (l ++ tkl) ((g, macO rv r m (wth r s (blkOf X)) b hd) :: bx) w' := by
  obtain ⟨q, hq⟩ : ∃ q, W.heap.size = q := ⟨_, rfl⟩
  have e3 := h.new (.cells (VI .u8 (List.replicate 17 0)) 67)
  obtain ⟨W0, hW0⟩ : ∃ V, W.alloc (.cells (VI .u8 (List.replicate 17 0)) 67) = V := ⟨_, rfl⟩
  rw [hW0, hq] at e3
  have hr0 : W0.rangeAt pb po (X.map (Value.int .u8)) := by rw [← hW0]; exact World.rangeAt_alloc hr _
  rw [zero17_lit] at hW0
  have hbxq : ∀ p ∈ (g, macO rv r m s b hd) :: bx, p.1 ≠ q := fun p hp => by have := heap_lt (h.at' p hp); omega
  have hgq : g < q := by rw [← hq]; exact h.lt mem0
  have E3 : Hid _ := e3
  have HM : Hid (MS r m s b) := hM
  have HL : Hid ((rv ≠ .pointer none → l.length ≤ 900000) ∧ X.length = 16 ∧ Byt X ∧ (∀ p ∈ bx, p.1 ≠ g) ∧ (∀ p ∈ (g, macO rv r m s b hd) :: bx, p.1 ≠ q) ∧ g < q) := ⟨hl, hX, hXb, hne, hbxq, hgq⟩
  have HR0 : Hid (W0.rangeAt pb po (X.map (Value.int .u8))) := hr0
  clear e3 h hM hl hX hXb hne hbxq hr hr0 hgq
  go_enter Try.func45, Try.ntmps45
  go_upto_region 1 with fail
  refine wp_as (c' := rgTa1) (by kernel_rfl) ?_
  refine Ta1 (bb := pb) (oo := po) (p4 := q)
    (R0 := fun Y => Ev B w rv l ((q, .cells (VI .u8 (List.replicate 17 0)) 67) :: (g, macO rv r m s b hd) :: bx) Y ∧ Y.rangeAt pb po (X.map (Value.int .u8)))
    (R1 := Ev B w rv l ((q, .cells (VI .u8 (X ++ [0])) 67) :: (g, macO rv r m s b hd) :: bx))
    ⟨E3.out.drew, by simpa using HR0.out⟩ (fun _ _ => trivial) ?_ (fun _ _ => trivial) (fun _ _ d _ _ h => by cases d <;> exact h) ?_
  · intro Y ⟨h, hs⟩ a o K Q ho hd hx hy hK
    have ht := row_there (h.row mem0)
    rw [List.length_replicate] at ht
    refine wpBuiltin (w' := Y.setCells q 0 (X.map (Value.int .u8))) (z := .int .i64 16) ho hd hx hy ?_ ?_
    · have := run_copyX (W := Y) (gd := q) (od := 0) (dl := 17) (dc := 17) (sl := 16) (sc := 16) o.type (by rw [HL.out.2.1]; rfl) hs (fun j hj => ht j (by rw [HL.out.2.1] at hj; omega))
      rw [HL.out.2.1] at this
      exact this
    · refine hK _ ?_
      have := Ev.copyInto (A := []) (X := List.replicate 16 0) (X' := X) (C := [0]) h HL.out.2.2.2.2.1 (by rw [HL.out.2.1, List.length_replicate])
      exact this
  intro W1 h1
  have H1 : Hid _ := h1
  have c16 : W1.cell? ⟨q, 16, none⟩ = some (.int .u8 0) := by
    rw [cell_of_row W1 _ _ _ _ _ (h1.row mem0), VI_at _ _ _ (by simp [HL.out.2.1]), List.getD_eq_getElem?_getD, List.getElem?_append_right (by rw [HL.out.2.1]; omega), HL.out.2.1]
    rfl
  have f16 : W1.frozen? ⟨q, 16, none⟩ = false := frozen_of_row W1 _ _ _ _ (h1.row mem0)
  have H2 : Hid (Ev B w rv l ((q, .cells (VI .u8 (X ++ [1])) 67) :: (g, macO rv r m s b hd) :: bx) (W1.setCell ⟨q, 16, none⟩ (.int .u8 1))) := by
    have := Ev.copyInto (A := X) (X := [0]) (X' := [1]) (C := []) h1 HL.out.2.2.2.2.1 rfl
    rw [HL.out.2.1] at this
    exact this
  clear h1
  obtain ⟨W2, hW2⟩ : ∃ V, W1.setCell ⟨q, 16, none⟩ (.int .u8 1) = V := ⟨_, rfl⟩
  rw [hW2] at H2
  go_upto_region 3 with fail
  refine wp_as (c' := rgTa3) (by kernel_rfl) ?_
  have hz := wth_lim HM.out.r HM.out.s (blkOf_byt HL.out.2.2.1)
  rw [blkOf_full HL.out.2.1] at hz
  have hK : Key17 (X ++ [1]) := ⟨by simp [HL.out.2.1], fun x hx => by
    rcases List.mem_append.1 hx with hx | hx
    · exact HL.out.2.2.1 x hx
    · rw [List.mem_singleton.1 hx]; decide⟩
  refine Ta3 (g := g) (h := hd) (rv := rv) (r := r) (m := m) (s := s) (b := b) (p4 := q) (bb := X ++ [1]) (z := wth r s (X ++ [1]))
    (R0 := Ev B w rv l ((q, .cells (VI .u8 (X ++ [1])) 67) :: (g, macO rv r m s b hd) :: bx))
    (R1 := Ev B w rv (l ++ tkl) ((q, .cells (VI .u8 (X ++ [1])) 67) :: (g, macO rv r m s b hd) :: bx))
    (R2 := Ev B w rv (l ++ tkl) ((g, macO rv r m (wth r s (X ++ [1])) b hd) :: (q, .cells (VI .u8 (X ++ [1])) 67) :: bx))
    HM hK.len (fun Y h => mac_sum HM.out.r.len HM.out.m.len (h.row mem1)) H2.out.drew (fun Y h => row_range (h.row mem0)) ?_ (fun Y h => row_range (h.row mem0)) ?_ (fun Y h => row_range (h.row mem1)) (fun _ _ d _ _ h => by cases d <;> exact h) ?_
  · exact fun Y h => with_any h HL.out.1 mem1 HM.out HM.out.s hK
  · intro Y h a o K Q ho hd hx hy hK'
    have hgr := h.row mem1
    refine wp_store_mid (P := Try.prog) _ _ _ ho g 22 (VI .u64 (wth r s (X ++ [1]))) hx hy ?_ ?_ (VI_one _ _) ?_
    · rw [VI_size, hz.len]
      intro j hj
      refine ⟨?_, mac_froz hgr _⟩
      rw [mac_sum HM.out.r.len HM.out.m.len hgr j _ (List.getElem?_eq_getElem (by rw [List.length_map, HM.out.s.len]; exact hj))]
      rfl
    · rw [VI_size, hz.len]; exact infoN
    · rw [hd]
      refine hK' _ ?_
      refine h.flip.set rfl (fun p hp => ?_) (grow_setCells g _ 22 Y) ?_
      · rcases List.mem_cons.1 hp with rfl | hp
        · have := HL.out.2.2.2.2.2; show q ≠ g; omega
        · exact HL.out.2.2.2.1 p hp
      · exact mac_setS HM.out.r.len HM.out.m.len (by rw [hz.len, HM.out.s.len]) hgr
  intro W9 h9
  have HF : Hid (Ev B w rv (l ++ tkl) ((g, macO rv r m (wth r s (blkOf X)) b hd) :: bx) W9) := by
    rw [blkOf_full HL.out.2.1]
    exact h9.flip.tail
  clear h9
  go_wp2
  first | go_end0 | refine bodyPost_ret (results_none rfl _ _ _) rfl ?_
  exact ⟨rfl, HF.out⟩
end Go.Proofs.Ytgfamcadgahiiaa
namespace Go.Proofs.Ytgfamcadgahiiaa
set_option linter.unusedSimpArgs false
set_option linter.unusedVariables false
open Go.ChangeShapes Go.WideShapes Go.ChangeAt Go.RowKit Go.Pin Go.Prm
noncomputable def rgTg4 : Code := ((Try.f13.body.bind (findReg 4)).getD .skip)
noncomputable def opTg4 : Array Oper := opsOf rgTg4
theorem rgTg4_is : rgTg4 = .region 4 opTg4 true := by kernel_rfl
theorem opTg4_ns : Region.noSelect opTg4 = true := by kernel_rfl
theorem opTg4_0 : opIs opTg4 0 (.move (.tmp 0)) (some 12) := by unfold opIs; kernel_rfl
theorem opTg4_1 : opIs opTg4 1 (.nilCheck (.tmp 12)) (some 13) := by unfold opIs; kernel_rfl
theorem opTg4_2 : opIs opTg4 2 (.fieldAddr 69 (.tmp 13) 0) (some 14) := by unfold opIs; kernel_rfl
theorem opTg4_3 : opIs opTg4 3 (.load 25 (.tmp 14)) (some 15) := by unfold opIs; kernel_rfl
theorem opTg4_4 : opIs opTg4 4 (.move (.tmp 0)) (some 16) := by unfold opIs; kernel_rfl
theorem opTg4_5 : opIs opTg4 5 (.nilCheck (.tmp 16)) (some 17) := by unfold opIs; kernel_rfl
theorem opTg4_6 : opIs opTg4 6 (.fieldAddr 69 (.tmp 17) 5) (some 18) := by unfold opIs; kernel_rfl
theorem opTg4_7 : opIs opTg4 7 (.load 3 (.tmp 18)) (some 19) := by unfold opIs; kernel_rfl
theorem opTg4_8 : opIs opTg4 8 (.binOp .gtr 3 (.tmp 19) (.const (.int .i64 0)) 3) (some 20) := by unfold opIs; kernel_rfl
theorem opTg4_9 : opIs opTg4 9 (.call { callee := .value (.func 36), args := #[.tmp 15, .tmp 20], argTypes := #[25, 4] }) (some 21) := by unfold opIs; kernel_rfl
set_option maxRecDepth 100000 in
set_option maxHeartbeats 4000000 in
theorem Tg4 {Q : Exit → Act → World → Prop} {W : World} {R0 : World → Prop} {R1 : World → Prop} {g h : Nat} {rv : Value} {r m s b : List Int} {c1 c2 c3 c4 c5 c6 c7 c8 c9 c10 c11 c12 c13 c14 c15 c16 c17 c18 c19 c20 c21 c22 c23 c24 c25 c26 c27 c28 c29 c30 c31 c32 c33 c34 c35 c36 c37 c38 c39 c40 c41 c42 c43 c44 c45 : Value}
    (hM : Hid (MS r m s b))
    (hR0 : R0 W.drew) (HS0 : ∀ Y, R0 Y → (fun Y : World => Y.heap[g]? = some (macO rv r m s b h) ∧ True) Y)
    (HK0 : Hid (∀ Y, R0 Y → Calls Try.prog 36 #[rv, .bool (decide (0 < h))] Y fun e w' => e = .returned (.bool (decide (0 < h))) ∧ R1 w'))
    (HS1 : ∀ Y, R1 Y → (fun Y : World => Y.heap[g]? = some (macO rv r m s b h) ∧ True) Y)
    (HPN : ∀ c (a : Act) d v w, Q (.panic c) (a.put d v) w → Q (.panic c) a w)
    (H : ∀ W', R1 W' → Q .normal ⟨#[.pointer (some ⟨g, 0, none⟩), c1, c2, c3, c4, c5, c6, c7, c8, c9, c10, c11, .pointer (some ⟨g, 0, none⟩), .pointer (some ⟨g, 0, none⟩), .pointer (some ⟨g, 0, none⟩), rv, .pointer (some ⟨g, 0, none⟩), .pointer (some ⟨g, 0, none⟩), .pointer (some ⟨g, 44, none⟩), .int .i64 ((h : Nat) : Int), .bool (decide (0 < h)), .bool (decide (0 < h)), c22, c23, c24, c25, c26, c27, c28, c29, c30, c31, c32, c33, c34, c35, c36, c37, c38, c39, c40, c41, c42, c43, c44, c45], []⟩ W') :
    Code.wp Try.prog rgTg4 Q ⟨#[.pointer (some ⟨g, 0, none⟩), c1, c2, c3, c4, c5, c6, c7, c8, c9, c10, c11, c12, c13, c14, c15, c16, c17, c18, c19, c20, c21, c22, c23, c24, c25, c26, c27, c28, c29, c30, c31, c32, c33, c34, c35, c36, c37, c38, c39, c40, c41, c42, c43, c44, c45], []⟩ W := by
  rw [rgTg4_is]
  refine wp_region_held_drew (S := fun Y : World => Y.heap[g]? = some (macO rv r m s b h) ∧ True) (by kernel_rfl) (HS0 _ hR0) (fun hH => ?_)
  obtain ⟨w0, hw00⟩ : ∃ V, W.drew = V := ⟨_, rfl⟩
  clear hH
  rw [hw00] at hR0 ⊢
  have hH := HS0 _ hR0
  have hw0 := hR0
  clear hw00
  obtain ⟨a0, ha⟩ : ∃ a : Act, a = ⟨#[.pointer (some ⟨g, 0, none⟩), c1, c2, c3, c4, c5, c6, c7, c8, c9, c10, c11, c12, c13, c14, c15, c16, c17, c18, c19, c20, c21, c22, c23, c24, c25, c26, c27, c28, c29, c30, c31, c32, c33, c34, c35, c36, c37, c38, c39, c40, c41, c42, c43, c44, c45], []⟩ := ⟨_, rfl⟩
  have sz0 : a0.tmps.size = 46 := by rw [ha]; kernel_rfl
  have e0_0 : a0.eval (.tmp 0) = .pointer (some ⟨g, 0, none⟩) := by rw [ha]; kernel_rfl
  rw [← ha]
  refine wpAnyH_as (l' := #[false, false, false, false, false, false, false, false, false, false]) (by kernel_rfl) ?_
  refine takeH (v := .pointer (some ⟨g, 0, none⟩)) opTg4_0 opTg4_ns (by kernel_rfl) (by kernel_rfl) HPN (fun w hw o ho => run_move ho e0_0 w) hH ?_
  refine wpAnyH_as (l' := #[true, false, false, false, false, false, false, false, false, false]) (by kernel_rfl) ?_
  obtain ⟨a1, h1⟩ : ∃ a' : Act, a' = a0.put (some 12) (.pointer (some ⟨g, 0, none⟩)) := ⟨_, rfl⟩
  rw [← h1]
  have sz1 : a1.tmps.size = 46 := by rw [h1, size_put]; exact sz0
  have e1_0 : a1.eval (.tmp 0) = .pointer (some ⟨g, 0, none⟩) := by rw [h1, eval_put_ne _ _ _ _ (by decide)]; exact e0_0
  have e1_12 : a1.eval (.tmp 12) = .pointer (some ⟨g, 0, none⟩) := by rw [h1]; exact eval_put_eq _ _ _ (by rw [sz0]; decide)
  clear e0_0 sz0
  refine takeH (v := .pointer (some ⟨g, 0, none⟩)) opTg4_1 opTg4_ns (by kernel_rfl) (by kernel_rfl) HPN (fun w hw o ho => run_nilCheck ho e1_12 w) hH ?_
  refine wpAnyH_as (l' := #[true, true, false, false, false, false, false, false, false, false]) (by kernel_rfl) ?_
  obtain ⟨a2, h2⟩ : ∃ a' : Act, a' = a1.put (some 13) (.pointer (some ⟨g, 0, none⟩)) := ⟨_, rfl⟩
  rw [← h2]
  have sz2 : a2.tmps.size = 46 := by rw [h2, size_put]; exact sz1
  have e2_0 : a2.eval (.tmp 0) = .pointer (some ⟨g, 0, none⟩) := by rw [h2, eval_put_ne _ _ _ _ (by decide)]; exact e1_0
  have e2_13 : a2.eval (.tmp 13) = .pointer (some ⟨g, 0, none⟩) := by rw [h2]; exact eval_put_eq _ _ _ (by rw [sz1]; decide)
  clear e1_0 e1_12 sz1
  refine takeH (v := .pointer (some ⟨g, 0, none⟩)) opTg4_2 opTg4_ns (by kernel_rfl) (by kernel_rfl) HPN (fun w hw o ho => run_fM0 ho e2_13 w) hH ?_
  refine wpAnyH_as (l' := #[true, true, true, false, false, false, false, false, false, false]) (by kernel_rfl) ?_
  obtain ⟨a3, h3⟩ : ∃ a' : Act, a' = a2.put (some 14) (.pointer (some ⟨g, 0, none⟩)) := ⟨_, rfl⟩
  rw [← h3]
  have sz3 : a3.tmps.size = 46 := by rw [h3, size_put]; exact sz2
  have e3_0 : a3.eval (.tmp 0) = .pointer (some ⟨g, 0, none⟩) := by rw [h3, eval_put_ne _ _ _ _ (by decide)]; exact e2_0
  have e3_14 : a3.eval (.tmp 14) = .pointer (some ⟨g, 0, none⟩) := by rw [h3]; exact eval_put_eq _ _ _ (by rw [sz2]; decide)
  clear e2_0 e2_13 sz2
  refine takeH (v := rv) opTg4_3 opTg4_ns (by kernel_rfl) (by kernel_rfl) HPN (fun w hw o ho => run_ldR ho e3_14 w (mac_r hw.1)) hH ?_
  refine wpAnyH_as (l' := #[true, true, true, true, false, false, false, false, false, false]) (by kernel_rfl) ?_
  obtain ⟨a4, h4⟩ : ∃ a' : Act, a' = a3.put (some 15) (rv) := ⟨_, rfl⟩
  rw [← h4]
  have sz4 : a4.tmps.size = 46 := by rw [h4, size_put]; exact sz3
  have e4_0 : a4.eval (.tmp 0) = .pointer (some ⟨g, 0, none⟩) := by rw [h4, eval_put_ne _ _ _ _ (by decide)]; exact e3_0
  have e4_15 : a4.eval (.tmp 15) = rv := by rw [h4]; exact eval_put_eq _ _ _ (by rw [sz3]; decide)
  clear e3_0 e3_14 sz3
  refine takeH (v := .pointer (some ⟨g, 0, none⟩)) opTg4_4 opTg4_ns (by kernel_rfl) (by kernel_rfl) HPN (fun w hw o ho => run_move ho e4_0 w) hH ?_
  refine wpAnyH_as (l' := #[true, true, true, true, true, false, false, false, false, false]) (by kernel_rfl) ?_
  obtain ⟨a5, h5⟩ : ∃ a' : Act, a' = a4.put (some 16) (.pointer (some ⟨g, 0, none⟩)) := ⟨_, rfl⟩
  rw [← h5]
  have sz5 : a5.tmps.size = 46 := by rw [h5, size_put]; exact sz4
  have e5_15 : a5.eval (.tmp 15) = rv := by rw [h5, eval_put_ne _ _ _ _ (by decide)]; exact e4_15
  have e5_16 : a5.eval (.tmp 16) = .pointer (some ⟨g, 0, none⟩) := by rw [h5]; exact eval_put_eq _ _ _ (by rw [sz4]; decide)
  clear e4_0 e4_15 sz4
  refine takeH (v := .pointer (some ⟨g, 0, none⟩)) opTg4_5 opTg4_ns (by kernel_rfl) (by kernel_rfl) HPN (fun w hw o ho => run_nilCheck ho e5_16 w) hH ?_
  refine wpAnyH_as (l' := #[true, true, true, true, true, true, false, false, false, false]) (by kernel_rfl) ?_
  obtain ⟨a6, h6⟩ : ∃ a' : Act, a' = a5.put (some 17) (.pointer (some ⟨g, 0, none⟩)) := ⟨_, rfl⟩
  rw [← h6]
  have sz6 : a6.tmps.size = 46 := by rw [h6, size_put]; exact sz5
  have e6_15 : a6.eval (.tmp 15) = rv := by rw [h6, eval_put_ne _ _ _ _ (by decide)]; exact e5_15
  have e6_17 : a6.eval (.tmp 17) = .pointer (some ⟨g, 0, none⟩) := by rw [h6]; exact eval_put_eq _ _ _ (by rw [sz5]; decide)
  clear e5_15 e5_16 sz5
  refine takeH (v := .pointer (some ⟨g, 44, none⟩)) opTg4_6 opTg4_ns (by kernel_rfl) (by kernel_rfl) HPN (fun w hw o ho => run_fM5 ho e6_17 w) hH ?_
  refine wpAnyH_as (l' := #[true, true, true, true, true, true, true, false, false, false]) (by kernel_rfl) ?_
  obtain ⟨a7, h7⟩ : ∃ a' : Act, a' = a6.put (some 18) (.pointer (some ⟨g, 44, none⟩)) := ⟨_, rfl⟩
  rw [← h7]
  have sz7 : a7.tmps.size = 46 := by rw [h7, size_put]; exact sz6
  have e7_15 : a7.eval (.tmp 15) = rv := by rw [h7, eval_put_ne _ _ _ _ (by decide)]; exact e6_15
  have e7_18 : a7.eval (.tmp 18) = .pointer (some ⟨g, 44, none⟩) := by rw [h7]; exact eval_put_eq _ _ _ (by rw [sz6]; decide)
  clear e6_15 e6_17 sz6
  refine takeH (v := .int .i64 ((h : Nat) : Int)) opTg4_7 opTg4_ns (by kernel_rfl) (by kernel_rfl) HPN (fun w hw o ho => run_ldI ho e7_18 w (mac_held hM.out.r.len hM.out.m.len hM.out.s.len hM.out.b.len hw.1)) hH ?_
  refine wpAnyH_as (l' := #[true, true, true, true, true, true, true, true, false, false]) (by kernel_rfl) ?_
  obtain ⟨a8, h8⟩ : ∃ a' : Act, a' = a7.put (some 19) (.int .i64 ((h : Nat) : Int)) := ⟨_, rfl⟩
  rw [← h8]
  have sz8 : a8.tmps.size = 46 := by rw [h8, size_put]; exact sz7
  have e8_15 : a8.eval (.tmp 15) = rv := by rw [h8, eval_put_ne _ _ _ _ (by decide)]; exact e7_15
  have e8_19 : a8.eval (.tmp 19) = .int .i64 ((h : Nat) : Int) := by rw [h8]; exact eval_put_eq _ _ _ (by rw [sz7]; decide)
  clear e7_15 e7_18 sz7
  refine takeH (v := .bool (decide (0 < h))) opTg4_8 opTg4_ns (by kernel_rfl) (by kernel_rfl) HPN (fun w hw o ho => run_gtr ho e8_19 rfl w) hH ?_
  refine wpAnyH_as (l' := #[true, true, true, true, true, true, true, true, true, false]) (by kernel_rfl) ?_
  obtain ⟨a9, h9⟩ : ∃ a' : Act, a' = a8.put (some 20) (.bool (decide (0 < h))) := ⟨_, rfl⟩
  rw [← h9]
  have sz9 : a9.tmps.size = 46 := by rw [h9, size_put]; exact sz8
  have e9_15 : a9.eval (.tmp 15) = rv := by rw [h9, eval_put_ne _ _ _ _ (by decide)]; exact e8_15
  have e9_20 : a9.eval (.tmp 20) = .bool (decide (0 < h)) := by rw [h9]; exact eval_put_eq _ _ _ (by rw [sz8]; decide)
  clear e8_15 e8_19 sz8
  refine readyH opTg4_9 (by kernel_rfl) (fun o ho hd => wpCall (v := .bool (decide (0 < h))) ho hd (args := #[rv, .bool (decide (0 < h))]) (by simp only [List.map_toArray, List.map_cons, List.map_nil, e9_15, e9_20] <;> rfl) (fun _ => rfl) (HK0.out  w0 hw0) (fun w1 hw1 => ?_))
  have hH := HS1  w1 hw1
  refine ⟨hH, ?_⟩
  refine wpAnyH_as (l' := #[true, true, true, true, true, true, true, true, true, true]) (by kernel_rfl) ?_
  obtain ⟨a10, h10⟩ : ∃ a' : Act, a' = a9.put (some 21) (.bool (decide (0 < h))) := ⟨_, rfl⟩
  rw [← h10]
  have sz10 : a10.tmps.size = 46 := by rw [h10, size_put]; exact sz9
  clear e9_15 e9_20 sz9
  refine wpAnyH_done (by kernel_rfl) ?_ _
  have hF : a10 = ⟨#[.pointer (some ⟨g, 0, none⟩), c1, c2, c3, c4, c5, c6, c7, c8, c9, c10, c11, .pointer (some ⟨g, 0, none⟩), .pointer (some ⟨g, 0, none⟩), .pointer (some ⟨g, 0, none⟩), rv, .pointer (some ⟨g, 0, none⟩), .pointer (some ⟨g, 0, none⟩), .pointer (some ⟨g, 44, none⟩), .int .i64 ((h : Nat) : Int), .bool (decide (0 < h)), .bool (decide (0 < h)), c22, c23, c24, c25, c26, c27, c28, c29, c30, c31, c32, c33, c34, c35, c36, c37, c38, c39, c40, c41, c42, c43, c44, c45], []⟩ := by rw [h10, h9, h8, h7, h6, h5, h4, h3, h2, h1, ha]; kernel_rfl
  rw [hF]
  exact H  _ hw1
noncomputable def rgTg6 : Code := ((Try.f13.body.bind (findReg 6)).getD .skip)
noncomputable def opTg6 : Array Oper := opsOf rgTg6
theorem rgTg6_is : rgTg6 = .region 6 opTg6 true := by kernel_rfl
theorem opTg6_ns : Region.noSelect opTg6 = true := by kernel_rfl
theorem opTg6_0 : opIs opTg6 0 (.move (.tmp 0)) (some 26) := by unfold opIs; kernel_rfl
theorem opTg6_1 : opIs opTg6 1 (.nilCheck (.tmp 26)) (some 27) := by unfold opIs; kernel_rfl
theorem opTg6_2 : opIs opTg6 2 (.fieldAddr 69 (.tmp 27) 0) (some 28) := by unfold opIs; kernel_rfl
theorem opTg6_3 : opIs opTg6 3 (.load 25 (.tmp 28)) (some 29) := by unfold opIs; kernel_rfl
theorem opTg6_4 : opIs opTg6 4 (.move (.tmp 0)) (some 30) := by unfold opIs; kernel_rfl
theorem opTg6_5 : opIs opTg6 5 (.nilCheck (.tmp 30)) (some 31) := by unfold opIs; kernel_rfl
theorem opTg6_6 : opIs opTg6 6 (.fieldAddr 69 (.tmp 31) 5) (some 32) := by unfold opIs; kernel_rfl
theorem opTg6_7 : opIs opTg6 7 (.load 3 (.tmp 32)) (some 33) := by unfold opIs; kernel_rfl
theorem opTg6_8 : opIs opTg6 8 (.call { callee := .value (.func 37), args := #[.tmp 29, .tmp 33], argTypes := #[25, 3] }) (some 34) := by unfold opIs; kernel_rfl
theorem opTg6_9 : opIs opTg6 9 (.indexAddr 67 (.tmp 4) (.tmp 34)) (some 35) := by unfold opIs; kernel_rfl
theorem opTg6_10 : opIs opTg6 10 (.store 5 (.tmp 35) (.const (.int .u8 1))) (none) := by unfold opIs; kernel_rfl
set_option maxRecDepth 100000 in
set_option maxHeartbeats 4000000 in
theorem Tg6 {Q : Exit → Act → World → Prop} {W : World} {R0 : World → Prop} {R1 : World → Prop} {R2 : World → Prop} {g h : Nat} {rv : Value} {r m s b : List Int} {p4 : Nat} {c1 c2 c3 c5 c6 c7 c8 c9 c10 c11 c12 c13 c14 c15 c16 c17 c18 c19 c20 c21 c22 c23 c24 c25 c26 c27 c28 c29 c30 c31 c32 c33 c34 c35 c36 c37 c38 c39 c40 c41 c42 c43 c44 c45 : Value}
    (hM : Hid (MS r m s b))
    (hH17 : Hid (h < 17))
    (hR0 : R0 W.drew) (HS0 : ∀ Y, R0 Y → (fun Y : World => Y.heap[g]? = some (macO rv r m s b h) ∧ True) Y)
    (HK0 : Hid (∀ Y, R0 Y → Calls Try.prog 37 #[rv, .int .i64 ((h : Nat) : Int)] Y fun e w' => e = .returned (.int .i64 ((h : Nat) : Int)) ∧ R1 w'))
    (HS1 : ∀ Y, R1 Y → (fun Y : World => Y.heap[g]? = some (macO rv r m s b h) ∧ True) Y)
    (HK1 : Hid (∀ Y, R1 Y → ∀ (a : Act) (o : Oper) (K : Act → World → Prop) (Q : Exit → Act → World → Prop), o.op = .store 5 (.tmp 35) (.const (.int .u8 1)) → o.dst = none → a.eval (.tmp 35) = .pointer (some ⟨p4, h, none⟩) → (∀ w', R2 w' → K a w') → Oper.wp Try.prog o a Y K Q))
    (HS2 : ∀ Y, R2 Y → (fun Y : World => Y.heap[g]? = some (macO rv r m s b h) ∧ True) Y)
    (HPN : ∀ c (a : Act) d v w, Q (.panic c) (a.put d v) w → Q (.panic c) a w)
    (H : ∀ W', R2 W' → Q .normal ⟨#[.pointer (some ⟨g, 0, none⟩), c1, c2, c3, .pointer (some ⟨p4, 0, none⟩), c5, c6, c7, c8, c9, c10, c11, c12, c13, c14, c15, c16, c17, c18, c19, c20, c21, c22, c23, c24, c25, .pointer (some ⟨g, 0, none⟩), .pointer (some ⟨g, 0, none⟩), .pointer (some ⟨g, 0, none⟩), rv, .pointer (some ⟨g, 0, none⟩), .pointer (some ⟨g, 0, none⟩), .pointer (some ⟨g, 44, none⟩), .int .i64 ((h : Nat) : Int), .int .i64 ((h : Nat) : Int), .pointer (some ⟨p4, h, none⟩), c36, c37, c38, c39, c40, c41, c42, c43, c44, c45], []⟩ W') :
    Code.wp Try.prog rgTg6 Q ⟨#[.pointer (some ⟨g, 0, none⟩), c1, c2, c3, .pointer (some ⟨p4, 0, none⟩), c5, c6, c7, c8, c9, c10, c11, c12, c13, c14, c15, c16, c17, c18, c19, c20, c21, c22, c23, c24, c25, c26, c27, c28, c29, c30, c31, c32, c33, c34, c35, c36, c37, c38, c39, c40, c41, c42, c43, c44, c45], []⟩ W := by
  rw [rgTg6_is]
  refine wp_region_held_drew (S := fun Y : World => Y.heap[g]? = some (macO rv r m s b h) ∧ True) (by kernel_rfl) (HS0 _ hR0) (fun hH => ?_)
  obtain ⟨w0, hw00⟩ : ∃ V, W.drew = V := ⟨_, rfl⟩
  clear hH
  rw [hw00] at hR0 ⊢
  have hH := HS0 _ hR0
  have hw0 := hR0
  clear hw00
  obtain ⟨a0, ha⟩ : ∃ a : Act, a = ⟨#[.pointer (some ⟨g, 0, none⟩), c1, c2, c3, .pointer (some ⟨p4, 0, none⟩), c5, c6, c7, c8, c9, c10, c11, c12, c13, c14, c15, c16, c17, c18, c19, c20, c21, c22, c23, c24, c25, c26, c27, c28, c29, c30, c31, c32, c33, c34, c35, c36, c37, c38, c39, c40, c41, c42, c43, c44, c45], []⟩ := ⟨_, rfl⟩
  have sz0 : a0.tmps.size = 46 := by rw [ha]; kernel_rfl
  have e0_0 : a0.eval (.tmp 0) = .pointer (some ⟨g, 0, none⟩) := by rw [ha]; kernel_rfl
  have e0_4 : a0.eval (.tmp 4) = .pointer (some ⟨p4, 0, none⟩) := by rw [ha]; kernel_rfl
  rw [← ha]
  refine wpAnyH_as (l' := #[false, false, false, false, false, false, false, false, false, false, false]) (by kernel_rfl) ?_
  refine takeH (v := .pointer (some ⟨g, 0, none⟩)) opTg6_0 opTg6_ns (by kernel_rfl) (by kernel_rfl) HPN (fun w hw o ho => run_move ho e0_0 w) hH ?_
  refine wpAnyH_as (l' := #[true, false, false, false, false, false, false, false, false, false, false]) (by kernel_rfl) ?_
  obtain ⟨a1, h1⟩ : ∃ a' : Act, a' = a0.put (some 26) (.pointer (some ⟨g, 0, none⟩)) := ⟨_, rfl⟩
  rw [← h1]
  have sz1 : a1.tmps.size = 46 := by rw [h1, size_put]; exact sz0
  have e1_0 : a1.eval (.tmp 0) = .pointer (some ⟨g, 0, none⟩) := by rw [h1, eval_put_ne _ _ _ _ (by decide)]; exact e0_0
  have e1_4 : a1.eval (.tmp 4) = .pointer (some ⟨p4, 0, none⟩) := by rw [h1, eval_put_ne _ _ _ _ (by decide)]; exact e0_4
  have e1_26 : a1.eval (.tmp 26) = .pointer (some ⟨g, 0, none⟩) := by rw [h1]; exact eval_put_eq _ _ _ (by rw [sz0]; decide)
  clear e0_0 e0_4 sz0
  refine takeH (v := .pointer (some ⟨g, 0, none⟩)) opTg6_1 opTg6_ns (by kernel_rfl) (by kernel_rfl) HPN (fun w hw o ho => run_nilCheck ho e1_26 w) hH ?_
  refine wpAnyH_as (l' := #[true, true, false, false, false, false, false, false, false, false, false]) (by kernel_rfl) ?_
  obtain ⟨a2, h2⟩ : ∃ a' : Act, a' = a1.put (some 27) (.pointer (some ⟨g, 0, none⟩)) := ⟨_, rfl⟩
  rw [← h2]
  have sz2 : a2.tmps.size = 46 := by rw [h2, size_put]; exact sz1
  have e2_0 : a2.eval (.tmp 0) = .pointer (some ⟨g, 0, none⟩) := by rw [h2, eval_put_ne _ _ _ _ (by decide)]; exact e1_0
  have e2_4 : a2.eval (.tmp 4) = .pointer (some ⟨p4, 0, none⟩) := by rw [h2, eval_put_ne _ _ _ _ (by decide)]; exact e1_4
  have e2_27 : a2.eval (.tmp 27) = .pointer (some ⟨g, 0, none⟩) := by rw [h2]; exact eval_put_eq _ _ _ (by rw [sz1]; decide)
  clear e1_0 e1_26 e1_4 sz1
  refine takeH (v := .pointer (some ⟨g, 0, none⟩)) opTg6_2 opTg6_ns (by kernel_rfl) (by kernel_rfl) HPN (fun w hw o ho => run_fM0 ho e2_27 w) hH ?_
  refine wpAnyH_as (l' := #[true, true, true, false, false, false, false, false, false, false, false]) (by kernel_rfl) ?_
  obtain ⟨a3, h3⟩ : ∃ a' : Act, a' = a2.put (some 28) (.pointer (some ⟨g, 0, none⟩)) := ⟨_, rfl⟩
  rw [← h3]
  have sz3 : a3.tmps.size = 46 := by rw [h3, size_put]; exact sz2
  have e3_0 : a3.eval (.tmp 0) = .pointer (some ⟨g, 0, none⟩) := by rw [h3, eval_put_ne _ _ _ _ (by decide)]; exact e2_0
  have e3_4 : a3.eval (.tmp 4) = .pointer (some ⟨p4, 0, none⟩) := by rw [h3, eval_put_ne _ _ _ _ (by decide)]; exact e2_4
  have e3_28 : a3.eval (.tmp 28) = .pointer (some ⟨g, 0, none⟩) := by rw [h3]; exact eval_put_eq _ _ _ (by rw [sz2]; decide)
  clear e2_0 e2_27 e2_4 sz2
  refine takeH (v := rv) opTg6_3 opTg6_ns (by kernel_rfl) (by kernel_rfl) HPN (fun w hw o ho => run_ldR ho e3_28 w (mac_r hw.1)) hH ?_
  refine wpAnyH_as (l' := #[true, true, true, true, false, false, false, false, false, false, false]) (by kernel_rfl) ?_
  obtain ⟨a4, h4⟩ : ∃ a' : Act, a' = a3.put (some 29) (rv) := ⟨_, rfl⟩
  rw [← h4]
  have sz4 : a4.tmps.size = 46 := by rw [h4, size_put]; exact sz3
  have e4_0 : a4.eval (.tmp 0) = .pointer (some ⟨g, 0, none⟩) := by rw [h4, eval_put_ne _ _ _ _ (by decide)]; exact e3_0
  have e4_4 : a4.eval (.tmp 4) = .pointer (some ⟨p4, 0, none⟩) := by rw [h4, eval_put_ne _ _ _ _ (by decide)]; exact e3_4
  have e4_29 : a4.eval (.tmp 29) = rv := by rw [h4]; exact eval_put_eq _ _ _ (by rw [sz3]; decide)
  clear e3_0 e3_28 e3_4 sz3
  refine takeH (v := .pointer (some ⟨g, 0, none⟩)) opTg6_4 opTg6_ns (by kernel_rfl) (by kernel_rfl) HPN (fun w hw o ho => run_move ho e4_0 w) hH ?_
  refine wpAnyH_as (l' := #[true, true, true, true, true, false, false, false, false, false, false]) (by kernel_rfl) ?_
  obtain ⟨a5, h5⟩ : ∃ a' : Act, a' = a4.put (some 30) (.pointer (some ⟨g, 0, none⟩)) := ⟨_, rfl⟩
  rw [← h5]
  have sz5 : a5.tmps.size = 46 := by rw [h5, size_put]; exact sz4
  have e5_4 : a5.eval (.tmp 4) = .pointer (some ⟨p4, 0, none⟩) := by rw [h5, eval_put_ne _ _ _ _ (by decide)]; exact e4_4
  have e5_29 : a5.eval (.tmp 29) = rv := by rw [h5, eval_put_ne _ _ _ _ (by decide)]; exact e4_29
  have e5_30 : a5.eval (.tmp 30) = .pointer (some ⟨g, 0, none⟩) := by rw [h5]; exact eval_put_eq _ _ _ (by rw [sz4]; decide)
  clear e4_0 e4_29 e4_4 sz4
  refine takeH (v := .pointer (some ⟨g, 0, none⟩)) opTg6_5 opTg6_ns (by kernel_rfl) (by kernel_rfl) HPN (fun w hw o ho => run_nilCheck ho e5_30 w) hH ?_
  refine wpAnyH_as (l' := #[true, true, true, true, true, true, false, false, false, false, false]) (by kernel_rfl) ?_
  obtain ⟨a6, h6⟩ : ∃ a' : Act, a' = a5.put (some 31) (.pointer (some ⟨g, 0, none⟩)) := ⟨_, rfl⟩
  rw [← h6]
  have sz6 : a6.tmps.size = 46 := by rw [h6, size_put]; exact sz5
  have e6_4 : a6.eval (.tmp 4) = .pointer (some ⟨p4, 0, none⟩) := by rw [h6, eval_put_ne _ _ _ _ (by decide)]; exact e5_4
  have e6_29 : a6.eval (.tmp 29) = rv := by rw [h6, eval_put_ne _ _ _ _ (by decide)]; exact e5_29
  have e6_31 : a6.eval (.tmp 31) = .pointer (some ⟨g, 0, none⟩) := by rw [h6]; exact eval_put_eq _ _ _ (by rw [sz5]; decide)
  clear e5_29 e5_30 e5_4 sz5
  refine takeH (v := .pointer (some ⟨g, 44, none⟩)) opTg6_6 opTg6_ns (by kernel_rfl) (by kernel_rfl) HPN (fun w hw o ho => run_fM5 ho e6_31 w) hH ?_
  refine wpAnyH_as (l' := #[true, true, true, true, true, true, true, false, false, false, false]) (by kernel_rfl) ?_
  obtain ⟨a7, h7⟩ : ∃ a' : Act, a' = a6.put (some 32) (.pointer (some ⟨g, 44, none⟩)) := ⟨_, rfl⟩
  rw [← h7]
  have sz7 : a7.tmps.size = 46 := by rw [h7, size_put]; exact sz6
  have e7_4 : a7.eval (.tmp 4) = .pointer (some ⟨p4, 0, none⟩) := by rw [h7, eval_put_ne _ _ _ _ (by decide)]; exact e6_4
  have e7_29 : a7.eval (.tmp 29) = rv := by rw [h7, eval_put_ne _ _ _ _ (by decide)]; exact e6_29
  have e7_32 : a7.eval (.tmp 32) = .pointer (some ⟨g, 44, none⟩) := by rw [h7]; exact eval_put_eq _ _ _ (by rw [sz6]; decide)
  clear e6_29 e6_31 e6_4 sz6
  refine takeH (v := .int .i64 ((h : Nat) : Int)) opTg6_7 opTg6_ns (by kernel_rfl) (by kernel_rfl) HPN (fun w hw o ho => run_ldI ho e7_32 w (mac_held hM.out.r.len hM.out.m.len hM.out.s.len hM.out.b.len hw.1)) hH ?_
  refine wpAnyH_as (l' := #[true, true, true, true, true, true, true, true, false, false, false]) (by kernel_rfl) ?_
  obtain ⟨a8, h8⟩ : ∃ a' : Act, a' = a7.put (some 33) (.int .i64 ((h : Nat) : Int)) := ⟨_, rfl⟩
  rw [← h8]
  have sz8 : a8.tmps.size = 46 := by rw [h8, size_put]; exact sz7
  have e8_4 : a8.eval (.tmp 4) = .pointer (some ⟨p4, 0, none⟩) := by rw [h8, eval_put_ne _ _ _ _ (by decide)]; exact e7_4
  have e8_29 : a8.eval (.tmp 29) = rv := by rw [h8, eval_put_ne _ _ _ _ (by decide)]; exact e7_29
  have e8_33 : a8.eval (.tmp 33) = .int .i64 ((h : Nat) : Int) := by rw [h8]; exact eval_put_eq _ _ _ (by rw [sz7]; decide)
  clear e7_29 e7_32 e7_4 sz7
  refine readyH opTg6_8 (by kernel_rfl) (fun o ho hd => wpCall (v := .int .i64 ((h : Nat) : Int)) ho hd (args := #[rv, .int .i64 ((h : Nat) : Int)]) (by simp only [List.map_toArray, List.map_cons, List.map_nil, e8_29, e8_33] <;> rfl) (fun _ => rfl) (HK0.out  w0 hw0) (fun w1 hw1 => ?_))
  have hH := HS1  w1 hw1
  refine ⟨hH, ?_⟩
  refine wpAnyH_as (l' := #[true, true, true, true, true, true, true, true, true, false, false]) (by kernel_rfl) ?_
  obtain ⟨a9, h9⟩ : ∃ a' : Act, a' = a8.put (some 34) (.int .i64 ((h : Nat) : Int)) := ⟨_, rfl⟩
  rw [← h9]
  have sz9 : a9.tmps.size = 46 := by rw [h9, size_put]; exact sz8
  have e9_4 : a9.eval (.tmp 4) = .pointer (some ⟨p4, 0, none⟩) := by rw [h9, eval_put_ne _ _ _ _ (by decide)]; exact e8_4
  have e9_34 : a9.eval (.tmp 34) = .int .i64 ((h : Nat) : Int) := by rw [h9]; exact eval_put_eq _ _ _ (by rw [sz8]; decide)
  clear e8_29 e8_33 e8_4 sz8
  refine takeH (v := .pointer (some ⟨p4, h, none⟩)) opTg6_9 opTg6_ns (by kernel_rfl) (by kernel_rfl) HPN (fun w hw o ho => run_ix17 hH17.out ho e9_4 e9_34 w) hH ?_
  refine wpAnyH_as (l' := #[true, true, true, true, true, true, true, true, true, true, false]) (by kernel_rfl) ?_
  obtain ⟨a10, h10⟩ : ∃ a' : Act, a' = a9.put (some 35) (.pointer (some ⟨p4, h, none⟩)) := ⟨_, rfl⟩
  rw [← h10]
  have sz10 : a10.tmps.size = 46 := by rw [h10, size_put]; exact sz9
  have e10_35 : a10.eval (.tmp 35) = .pointer (some ⟨p4, h, none⟩) := by rw [h10]; exact eval_put_eq _ _ _ (by rw [sz9]; decide)
  clear e9_34 e9_4 sz9
  refine readyH opTg6_10 (by kernel_rfl) (fun o ho hd => HK1.out  w1 hw1 _ o _ _ ho hd e10_35 (fun  w2 hw2 => ?_))
  have hH := HS2  w2 hw2
  refine ⟨hH, ?_⟩
  refine wpAnyH_as (l' := #[true, true, true, true, true, true, true, true, true, true, true]) (by kernel_rfl) ?_
  refine wpAnyH_done (by kernel_rfl) ?_ _
  have hF : a10 = ⟨#[.pointer (some ⟨g, 0, none⟩), c1, c2, c3, .pointer (some ⟨p4, 0, none⟩), c5, c6, c7, c8, c9, c10, c11, c12, c13, c14, c15, c16, c17, c18, c19, c20, c21, c22, c23, c24, c25, .pointer (some ⟨g, 0, none⟩), .pointer (some ⟨g, 0, none⟩), .pointer (some ⟨g, 0, none⟩), rv, .pointer (some ⟨g, 0, none⟩), .pointer (some ⟨g, 0, none⟩), .pointer (some ⟨g, 44, none⟩), .int .i64 ((h : Nat) : Int), .int .i64 ((h : Nat) : Int), .pointer (some ⟨p4, h, none⟩), c36, c37, c38, c39, c40, c41, c42, c43, c44, c45], []⟩ := by rw [h10, h9, h8, h7, h6, h5, h4, h3, h2, h1, ha]; kernel_rfl
  rw [hF]
  exact H  _ hw2
noncomputable def rgTg8 : Code := ((Try.f13.body.bind (findReg 8)).getD .skip)
noncomputable def opTg8 : Array Oper := opsOf rgTg8
theorem rgTg8_is : rgTg8 = .region 8 opTg8 true := by kernel_rfl
theorem opTg8_ns : Region.noSelect opTg8 = true := by kernel_rfl
theorem opTg8_0 : opIs opTg8 0 (.load 66 (.tmp 3)) (some 40) := by unfold opIs; kernel_rfl
theorem opTg8_1 : opIs opTg8 1 (.move (.tmp 0)) (some 41) := by unfold opIs; kernel_rfl
theorem opTg8_2 : opIs opTg8 2 (.nilCheck (.tmp 41)) (some 42) := by unfold opIs; kernel_rfl
theorem opTg8_3 : opIs opTg8 3 (.fieldAddr 69 (.tmp 42) 2) (some 43) := by unfold opIs; kernel_rfl
theorem opTg8_4 : opIs opTg8 4 (.load 35 (.tmp 43)) (some 44) := by unfold opIs; kernel_rfl
theorem opTg8_5 : opIs opTg8 5 (.call { callee := .value (.func 39), args := #[.tmp 40, .tmp 44], argTypes := #[66, 35] }) (some 45) := by unfold opIs; kernel_rfl
theorem opTg8_6 : opIs opTg8 6 (.store 36 (.tmp 2) (.tmp 45)) (none) := by unfold opIs; kernel_rfl
set_option maxRecDepth 100000 in
set_option maxHeartbeats 4000000 in
theorem Tg8 {Q : Exit → Act → World → Prop} {W : World} {R0 : World → Prop} {R1 : World → Prop} {R2 : World → Prop} {g h : Nat} {rv : Value} {r m s b : List Int} {p3 p2 : Nat} {sm tg : List Int} {c1 c4 c5 c6 c7 c8 c9 c10 c11 c12 c13 c14 c15 c16 c17 c18 c19 c20 c21 c22 c23 c24 c25 c26 c27 c28 c29 c30 c31 c32 c33 c34 c35 c36 c37 c38 c39 c40 c41 c42 c43 c44 c45 : Value}
    (hM : Hid (MS r m s b))
    (hSm : Hid (sm.length = 5))
    (hR0 : R0 W.drew) (HS0 : ∀ Y, R0 Y → (fun Y : World => Y.heap[g]? = some (macO rv r m s b h) ∧ Y.rangeAt p3 0 (sm.map (Value.int .u64))) Y)
    (HK0 : Hid (∀ Y, R0 Y → Calls Try.prog 39 #[.agg (VI .u64 sm), .agg (VI .u8 m)] Y fun e w' => e = .returned (.agg (VI .u8 tg)) ∧ R1 w'))
    (HS1 : ∀ Y, R1 Y → (fun Y : World => Y.heap[g]? = some (macO rv r m s b h) ∧ Y.rangeAt p3 0 (sm.map (Value.int .u64))) Y)
    (HK1 : Hid (∀ Y, R1 Y → ∀ (a : Act) (o : Oper) (K : Act → World → Prop) (Q : Exit → Act → World → Prop), o.op = .store 36 (.tmp 2) (.tmp 45) → o.dst = none → a.eval (.tmp 2) = .pointer (some ⟨p2, 0, none⟩) → a.eval (.tmp 45) = .agg (VI .u8 tg) → (∀ w', R2 w' → K a w') → Oper.wp Try.prog o a Y K Q))
    (HS2 : ∀ Y, R2 Y → (fun Y : World => Y.heap[g]? = some (macO rv r m s b h) ∧ Y.rangeAt p3 0 (sm.map (Value.int .u64))) Y)
    (HPN : ∀ c (a : Act) d v w, Q (.panic c) (a.put d v) w → Q (.panic c) a w)
    (H : ∀ W', R2 W' → Q .normal ⟨#[.pointer (some ⟨g, 0, none⟩), c1, .pointer (some ⟨p2, 0, none⟩), .pointer (some ⟨p3, 0, none⟩), c4, c5, c6, c7, c8, c9, c10, c11, c12, c13, c14, c15, c16, c17, c18, c19, c20, c21, c22, c23, c24, c25, c26, c27, c28, c29, c30, c31, c32, c33, c34, c35, c36, c37, c38, c39, .agg (VI .u64 sm), .pointer (some ⟨g, 0, none⟩), .pointer (some ⟨g, 0, none⟩), .pointer (some ⟨g, 6, none⟩), .agg (VI .u8 m), .agg (VI .u8 tg)], []⟩ W') :
    Code.wp Try.prog rgTg8 Q ⟨#[.pointer (some ⟨g, 0, none⟩), c1, .pointer (some ⟨p2, 0, none⟩), .pointer (some ⟨p3, 0, none⟩), c4, c5, c6, c7, c8, c9, c10, c11, c12, c13, c14, c15, c16, c17, c18, c19, c20, c21, c22, c23, c24, c25, c26, c27, c28, c29, c30, c31, c32, c33, c34, c35, c36, c37, c38, c39, c40, c41, c42, c43, c44, c45], []⟩ W := by
  rw [rgTg8_is]
  refine wp_region_held_drew (S := fun Y : World => Y.heap[g]? = some (macO rv r m s b h) ∧ Y.rangeAt p3 0 (sm.map (Value.int .u64))) (by kernel_rfl) (HS0 _ hR0) (fun hH => ?_)
  obtain ⟨w0, hw00⟩ : ∃ V, W.drew = V := ⟨_, rfl⟩
  clear hH
  rw [hw00] at hR0 ⊢
  have hH := HS0 _ hR0
  have hw0 := hR0
  clear hw00
  obtain ⟨a0, ha⟩ : ∃ a : Act, a = ⟨#[.pointer (some ⟨g, 0, none⟩), c1, .pointer (some ⟨p2, 0, none⟩), .pointer (some ⟨p3, 0, none⟩), c4, c5, c6, c7, c8, c9, c10, c11, c12, c13, c14, c15, c16, c17, c18, c19, c20, c21, c22, c23, c24, c25, c26, c27, c28, c29, c30, c31, c32, c33, c34, c35, c36, c37, c38, c39, c40, c41, c42, c43, c44, c45], []⟩ := ⟨_, rfl⟩
  have sz0 : a0.tmps.size = 46 := by rw [ha]; kernel_rfl
  have e0_0 : a0.eval (.tmp 0) = .pointer (some ⟨g, 0, none⟩) := by rw [ha]; kernel_rfl
  have e0_2 : a0.eval (.tmp 2) = .pointer (some ⟨p2, 0, none⟩) := by rw [ha]; kernel_rfl
  have e0_3 : a0.eval (.tmp 3) = .pointer (some ⟨p3, 0, none⟩) := by rw [ha]; kernel_rfl
  rw [← ha]
  refine wpAnyH_as (l' := #[false, false, false, false, false, false, false]) (by kernel_rfl) ?_
  refine takeH (v := .agg (VI .u64 sm)) opTg8_0 opTg8_ns (by kernel_rfl) (by kernel_rfl) HPN (fun w hw o ho => run_ldN hSm.out ho e0_3 w hw.2) hH ?_
  refine wpAnyH_as (l' := #[true, false, false, false, false, false, false]) (by kernel_rfl) ?_
  obtain ⟨a1, h1⟩ : ∃ a' : Act, a' = a0.put (some 40) (.agg (VI .u64 sm)) := ⟨_, rfl⟩
  rw [← h1]
  have sz1 : a1.tmps.size = 46 := by rw [h1, size_put]; exact sz0
  have e1_0 : a1.eval (.tmp 0) = .pointer (some ⟨g, 0, none⟩) := by rw [h1, eval_put_ne _ _ _ _ (by decide)]; exact e0_0
  have e1_2 : a1.eval (.tmp 2) = .pointer (some ⟨p2, 0, none⟩) := by rw [h1, eval_put_ne _ _ _ _ (by decide)]; exact e0_2
  have e1_40 : a1.eval (.tmp 40) = .agg (VI .u64 sm) := by rw [h1]; exact eval_put_eq _ _ _ (by rw [sz0]; decide)
  clear e0_0 e0_2 e0_3 sz0
  refine takeH (v := .pointer (some ⟨g, 0, none⟩)) opTg8_1 opTg8_ns (by kernel_rfl) (by kernel_rfl) HPN (fun w hw o ho => run_move ho e1_0 w) hH ?_
  refine wpAnyH_as (l' := #[true, true, false, false, false, false, false]) (by kernel_rfl) ?_
  obtain ⟨a2, h2⟩ : ∃ a' : Act, a' = a1.put (some 41) (.pointer (some ⟨g, 0, none⟩)) := ⟨_, rfl⟩
  rw [← h2]
  have sz2 : a2.tmps.size = 46 := by rw [h2, size_put]; exact sz1
  have e2_2 : a2.eval (.tmp 2) = .pointer (some ⟨p2, 0, none⟩) := by rw [h2, eval_put_ne _ _ _ _ (by decide)]; exact e1_2
  have e2_40 : a2.eval (.tmp 40) = .agg (VI .u64 sm) := by rw [h2, eval_put_ne _ _ _ _ (by decide)]; exact e1_40
  have e2_41 : a2.eval (.tmp 41) = .pointer (some ⟨g, 0, none⟩) := by rw [h2]; exact eval_put_eq _ _ _ (by rw [sz1]; decide)
  clear e1_0 e1_2 e1_40 sz1
  refine takeH (v := .pointer (some ⟨g, 0, none⟩)) opTg8_2 opTg8_ns (by kernel_rfl) (by kernel_rfl) HPN (fun w hw o ho => run_nilCheck ho e2_41 w) hH ?_
  refine wpAnyH_as (l' := #[true, true, true, false, false, false, false]) (by kernel_rfl) ?_
  obtain ⟨a3, h3⟩ : ∃ a' : Act, a' = a2.put (some 42) (.pointer (some ⟨g, 0, none⟩)) := ⟨_, rfl⟩
  rw [← h3]
  have sz3 : a3.tmps.size = 46 := by rw [h3, size_put]; exact sz2
  have e3_2 : a3.eval (.tmp 2) = .pointer (some ⟨p2, 0, none⟩) := by rw [h3, eval_put_ne _ _ _ _ (by decide)]; exact e2_2
  have e3_40 : a3.eval (.tmp 40) = .agg (VI .u64 sm) := by rw [h3, eval_put_ne _ _ _ _ (by decide)]; exact e2_40
  have e3_42 : a3.eval (.tmp 42) = .pointer (some ⟨g, 0, none⟩) := by rw [h3]; exact eval_put_eq _ _ _ (by rw [sz2]; decide)
  clear e2_2 e2_40 e2_41 sz2
  refine takeH (v := .pointer (some ⟨g, 6, none⟩)) opTg8_3 opTg8_ns (by kernel_rfl) (by kernel_rfl) HPN (fun w hw o ho => run_fM2 ho e3_42 w) hH ?_
  refine wpAnyH_as (l' := #[true, true, true, true, false, false, false]) (by kernel_rfl) ?_
  obtain ⟨a4, h4⟩ : ∃ a' : Act, a' = a3.put (some 43) (.pointer (some ⟨g, 6, none⟩)) := ⟨_, rfl⟩
  rw [← h4]
  have sz4 : a4.tmps.size = 46 := by rw [h4, size_put]; exact sz3
  have e4_2 : a4.eval (.tmp 2) = .pointer (some ⟨p2, 0, none⟩) := by rw [h4, eval_put_ne _ _ _ _ (by decide)]; exact e3_2
  have e4_40 : a4.eval (.tmp 40) = .agg (VI .u64 sm) := by rw [h4, eval_put_ne _ _ _ _ (by decide)]; exact e3_40
  have e4_43 : a4.eval (.tmp 43) = .pointer (some ⟨g, 6, none⟩) := by rw [h4]; exact eval_put_eq _ _ _ (by rw [sz3]; decide)
  clear e3_2 e3_40 e3_42 sz3
  refine takeH (v := .agg (VI .u8 m)) opTg8_4 opTg8_ns (by kernel_rfl) (by kernel_rfl) HPN (fun w hw o ho => run_ld16 hM.out.m.len ho e4_43 w (mac_mask hM.out.r.len hw.1)) hH ?_
  refine wpAnyH_as (l' := #[true, true, true, true, true, false, false]) (by kernel_rfl) ?_
  obtain ⟨a5, h5⟩ : ∃ a' : Act, a' = a4.put (some 44) (.agg (VI .u8 m)) := ⟨_, rfl⟩
  rw [← h5]
  have sz5 : a5.tmps.size = 46 := by rw [h5, size_put]; exact sz4
  have e5_2 : a5.eval (.tmp 2) = .pointer (some ⟨p2, 0, none⟩) := by rw [h5, eval_put_ne _ _ _ _ (by decide)]; exact e4_2
  have e5_40 : a5.eval (.tmp 40) = .agg (VI .u64 sm) := by rw [h5, eval_put_ne _ _ _ _ (by decide)]; exact e4_40
  have e5_44 : a5.eval (.tmp 44) = .agg (VI .u8 m) := by rw [h5]; exact eval_put_eq _ _ _ (by rw [sz4]; decide)
  clear e4_2 e4_40 e4_43 sz4
  refine readyH opTg8_5 (by kernel_rfl) (fun o ho hd => wpCall (v := .agg (VI .u8 tg)) ho hd (args := #[.agg (VI .u64 sm), .agg (VI .u8 m)]) (by simp only [List.map_toArray, List.map_cons, List.map_nil, e5_40, e5_44] <;> rfl) (fun _ => rfl) (HK0.out  w0 hw0) (fun w1 hw1 => ?_))
  have hH := HS1  w1 hw1
  refine ⟨hH, ?_⟩
  refine wpAnyH_as (l' := #[true, true, true, true, true, true, false]) (by kernel_rfl) ?_
  obtain ⟨a6, h6⟩ : ∃ a' : Act, a' = a5.put (some 45) (.agg (VI .u8 tg)) := ⟨_, rfl⟩
  rw [← h6]
  have sz6 : a6.tmps.size = 46 := by rw [h6, size_put]; exact sz5
  have e6_2 : a6.eval (.tmp 2) = .pointer (some ⟨p2, 0, none⟩) := by rw [h6, eval_put_ne _ _ _ _ (by decide)]; exact e5_2
  have e6_45 : a6.eval (.tmp 45) = .agg (VI .u8 tg) := by rw [h6]; exact eval_put_eq _ _ _ (by rw [sz5]; decide)
  clear e5_2 e5_40 e5_44 sz5
  refine readyH opTg8_6 (by kernel_rfl) (fun o ho hd => HK1.out  w1 hw1 _ o _ _ ho hd e6_2 e6_45 (fun  w2 hw2 => ?_))
  have hH := HS2  w2 hw2
  refine ⟨hH, ?_⟩
  refine wpAnyH_as (l' := #[true, true, true, true, true, true, true]) (by kernel_rfl) ?_
  refine wpAnyH_done (by kernel_rfl) ?_ _
  have hF : a6 = ⟨#[.pointer (some ⟨g, 0, none⟩), c1, .pointer (some ⟨p2, 0, none⟩), .pointer (some ⟨p3, 0, none⟩), c4, c5, c6, c7, c8, c9, c10, c11, c12, c13, c14, c15, c16, c17, c18, c19, c20, c21, c22, c23, c24, c25, c26, c27, c28, c29, c30, c31, c32, c33, c34, c35, c36, c37, c38, c39, .agg (VI .u64 sm), .pointer (some ⟨g, 0, none⟩), .pointer (some ⟨g, 0, none⟩), .pointer (some ⟨g, 6, none⟩), .agg (VI .u8 m), .agg (VI .u8 tg)], []⟩ := by rw [h6, h5, h4, h3, h2, h1, ha]; kernel_rfl
  rw [hF]
  exact H  _ hw2
end Go.Proofs.Ytgfamcadgahiiaa
namespace Go.Proofs.Ytgfamcadgahiiaa
set_option linter.unusedSimpArgs false
set_option linter.unusedVariables false
open Go.ChangeShapes Go.WideShapes Go.ChangeAt Go.RowKit Go.Pin Go.Prm
/-- 32 bytes -/
structure Key32 (b : List Int) : Prop where
  len : b.length = 32
  bd : Byt b
/-- the Mac of a key that has taken D -/
def mst (rv : Value) (key D : List Int) : Obj := macO rv (rOf key) (sOf key) (acc (rOf key) z5 D) (rst D ++ List.replicate (17 - (rst D).length) 0) (rst D).length
theorem Key32.lo {key : List Int} (h : Key32 key) : Key16 (key.take 16) := ⟨by rw [List.length_take, h.len]; rfl, fun x hx => h.bd x (List.mem_of_mem_take hx)⟩
theorem Key32.hi {key : List Int} (h : Key32 key) : Key16 (sOf key) := ⟨by unfold sOf; rw [List.length_drop, h.len], fun x hx => h.bd x (List.mem_of_mem_drop hx)⟩
theorem fill_key {D : List Int} (h : Byt D) (hl : D.length ≤ 17) : Key17 (D ++ List.replicate (17 - D.length) 0) := ⟨by simp; omega, fun x hx => by
  rcases List.mem_append.1 hx with hx | hx
  · exact h x hx
  · rw [(List.mem_replicate.1 hx).2]; decide⟩
theorem mst_ms {key D : List Int} (hk : Key32 key) (hD : Byt D) : MS (rOf key) (sOf key) (acc (rOf key) z5 D) (rst D ++ List.replicate (17 - (rst D).length) 0) :=
  ⟨rOf_lim hk.len hk.bd, hk.hi, acc_lim (rOf_lim hk.len hk.bd) z5_lim hD, fill_key (rst_byt hD) (by rw [rst_len]; omega)⟩
theorem mst_zero (rv : Value) (key : List Int) : mst rv key [] = macO rv (rOf key) (sOf key) z5 z17 0 := rfl
theorem run_boxM {a : Act} {o : Oper} {x : Operand} {rv : Value} {r m s b : List Int} {h : Nat} (ho : o.op = .box 69 x) (he : a.eval x = .agg (macL rv r m s b h).toArray) (w : World) : (execOp a.eval o).run Try.prog w = .ok (.value (.pointer (some ⟨w.heap.size, 0, none⟩))) (w.alloc (macO rv r m s b h)) := by
  unfold execOp
  simp only [ho, he]
  go_simp
  rfl
theorem range_part {W : World} {g : Nat} {L : List Int} {T : TypeId} {fr : Nat × Nat} (h : W.heap[g]? = some (.cells (VI .u8 L) T fr)) (o : Nat) (ho : o ≤ L.length) : W.rangeAt g o ((L.drop o).map (Value.int .u8)) := by
  have := range_row' h o (L.length - o) (by omega)
  rw [List.take_of_length_le (by simp)] at this
  exact this
set_option maxRecDepth 100000 in
set_option maxHeartbeats 4000000 in
theorem mnew_any {B : Nat} {w : World} {rv : Value} {l : List (Int × Int)} {bx : List (Nat × Obj)} {W : World} (h : Ev B w rv l bx W) {key : List Int} (hk : Key32 key) :
    Calls Try.prog 10 #[rv, .agg (VI .u8 key)] W fun e w' => ∃ g, e = .returned (.pointer (some ⟨g, 0, none⟩)) ∧ W.heap.size ≤ g ∧ Ev B w rv l ((g, mst rv key []) :: bx) w' := by
  obtain ⟨ra, hra⟩ : ∃ ra, rv = .pointer ra := by
    rcases h.rc with e | ⟨R, vs, e, _⟩
    · exact ⟨_, e⟩
    · exact ⟨_, e⟩
  subst hra
  obtain ⟨q, hq⟩ : ∃ q, W.heap.size = q := ⟨_, rfl⟩
  have e3 := h.new (.cells (VI .u8 key) 23)
  obtain ⟨W0, hW0⟩ : ∃ V, W.alloc (.cells (VI .u8 key) 23) = V := ⟨_, rfl⟩
  rw [hW0, hq] at e3
  have hq0 : q < W0.heap.size := by rw [← hW0, size_alloc]; omega
  rw [hq]
  have E3 : Hid _ := e3
  have HK : Hid (Key32 key ∧ q < W0.heap.size) := ⟨hk, hq0⟩
  clear e3 h hk hq0
  have HI : Hid ((Try.prog.info? 23).map (·.size) = some (VI .u8 key).size) := by
    have : (Try.prog.info? 23).map (·.size) = some (VI .u8 key).size := by rw [VI_size, HK.out.1.len]; kernel_rfl
    exact this
  go_enter Try.func10, Try.ntmps10
  go_upto_region 1 with fail
  refine wp_as (c' := rgNe1) (by kernel_rfl) ?_
  have hS : ∀ Y, Ev B w (.pointer ra) l ((q, .cells (VI .u8 key) 23) :: bx) Y → Y.rangeAt q 0 ((key.take 16).map (Value.int .u8)) ∧ Y.rangeAt q 16 ((key.drop 16).map (Value.int .u8)) := fun Y h => by
    have h0 := range_row' (h.row mem0) 0 16 (by rw [HK.out.1.len]; omega)
    exact ⟨h0, range_part (h.row mem0) 16 (by rw [HK.out.1.len]; omega)⟩
  refine Ne1 (q := q) (ra := ra) (key := key) (z := rOf key)
    (R0 := fun Y => Ev B w (.pointer ra) l ((q, .cells (VI .u8 key) 23) :: bx) Y ∧ q < Y.heap.size) (R1 := fun Y => Ev B w (.pointer ra) l ((q, .cells (VI .u8 key) 23) :: bx) Y ∧ q < Y.heap.size)
    (R2 := fun gg Y => q ≤ gg ∧ Ev B w (.pointer ra) l ((gg, mst (.pointer ra) key []) :: (q, .cells (VI .u8 key) 23) :: bx) Y)
    ⟨HK.out.1.lo.len, HK.out.1.hi.len⟩ (rOf_lim HK.out.1.len HK.out.1.bd).len ⟨E3.out.drew, HK.out.2⟩ (fun Y h => hS Y h.1) ?_ (fun Y h => hS Y h.1) ?_ (fun gg Y h => hS Y h.2.tail) (fun _ _ d _ _ h => by cases d <;> exact h) ?_
  · exact fun Y h => (clamp_any (key.take 16) HK.out.1.lo Y).mono fun e w' hh => ⟨hh.1, h.1.below hh.2, Nat.lt_of_lt_of_le h.2 hh.2.size⟩
  · intro Y ⟨h, hlt⟩ a o K Q ho hd hx hK
    refine wpRun hd (run_boxM ho hx Y) (hK Y.heap.size _ ⟨Nat.le_of_lt hlt, ?_⟩)
    rw [mst_zero]
    exact h.new _
  intro gg W9 h9
  have HF : Hid (q ≤ gg ∧ Ev B w (.pointer ra) l ((gg, mst (.pointer ra) key []) :: bx) W9) := ⟨h9.1, h9.2.flip.tail⟩
  clear h9
  go_wp2
  go_ret
  exact ⟨gg, rfl, HF.out⟩
end Go.Proofs.Ytgfamcadgahiiaa
