import Derived.Test.YtgfamcadgahiiabMacB
namespace Go.Proofs.Ytgfamcadgahiiab
set_option linter.unusedSimpArgs false
set_option linter.unusedVariables false
open Go.ChangeShapes Go.WideShapes Go.ChangeAt Go.RowKit Go.Pin Go.Prm
section
variable {α : Type} {a b c d e f : α} {l : List α}
theorem mem0 : a ∈ a :: l := List.mem_cons_self ..
theorem mem1 : b ∈ a :: b :: l := List.mem_cons_of_mem _ mem0
theorem mem2 : c ∈ a :: b :: c :: l := List.mem_cons_of_mem _ mem1
theorem mem3 : d ∈ a :: b :: c :: d :: l := List.mem_cons_of_mem _ mem2
theorem mem4 : e ∈ a :: b :: c :: d :: e :: l := List.mem_cons_of_mem _ mem3
theorem mem5 : f ∈ a :: b :: c :: d :: e :: f :: l := List.mem_cons_of_mem _ mem4
theorem memr1 (h : b ∈ l) : b ∈ a :: l := List.mem_cons_of_mem _ h
theorem memr2 (h : c ∈ l) : c ∈ a :: b :: l := List.mem_cons_of_mem _ (memr1 h)
theorem memr3 (h : d ∈ l) : d ∈ a :: b :: c :: l := List.mem_cons_of_mem _ (memr2 h)
theorem memr4 (h : e ∈ l) : e ∈ a :: b :: c :: d :: l := List.mem_cons_of_mem _ (memr3 h)
end
section
variable {B : Nat} {w : World} {rv : Value} {l : List (Int × Int)} {bx : List (Nat × Obj)} {W : World}
theorem row_there {g : Nat} {k : IntKind} {L : List Int} {T : TypeId} (h : W.heap[g]? = some (.cells (VI k L) T)) : W.there g 0 L.length := fun j hj => by
  refine ⟨?_, frozen_of_row W _ _ _ _ h⟩
  rw [Nat.zero_add, cell_of_row W _ _ _ _ _ h, VI_at _ _ _ hj]
  rfl
theorem row_range {g : Nat} {k : IntKind} {L : List Int} {T : TypeId} {fr : Nat × Nat} (h : W.heap[g]? = some (.cells (VI k L) T fr)) : W.rangeAt g 0 (L.map (Value.int k)) := by
  have := range_in (w := W) (g := g) (p := []) (q := L.map (Value.int k)) (t := []) (T := T) (fr := fr) (by simpa [VI] using h)
  exact this
theorem Ev.storeRow {g : Nat} {k : IntKind} {L L' : List Int} {T : TypeId} (h : Ev B w rv l ((g, .cells (VI k L) T) :: bx) W) (hne : ∀ p ∈ bx, p.1 ≠ g) (hl : L'.length = L.length) : Ev B w rv l ((g, .cells (VI k L') T) :: bx) (W.setCells g 0 (VI k L').toList) := by
  refine h.set rfl hne (grow_setCells g _ 0 W) ?_
  have h0 : W.heap[g]? = some (.cells ([] ++ (L.map (Value.int k) ++ [])).toArray T) := by simpa [VI] using h.row (List.mem_cons_self ..)
  have := heap_setCells_row g (L'.map (Value.int k)) _ _ _ W (by simpa using hl) h0
  simpa [VI] using this
/-- a whole row is stored into a box -/
theorem wp_storeBox {op : Oper} {a : Act} {K : Act → World → Prop} {Q : Exit → Act → World → Prop} {ty : TypeId} {x y : Operand} {g : Nat} {k : IntKind} {L L' : List Int} {T : TypeId} (h : Ev B w rv l ((g, .cells (VI k L) T) :: bx) W) (hne : ∀ p ∈ bx, p.1 ≠ g) (hl : L'.length = L.length) (hi : (Try.prog.info? ty).map (·.size) = some L.length)
    (ho : op.op = .store ty x y) (hd : op.dst = none) (hx : a.eval x = .pointer (some ⟨g, 0, none⟩)) (hy : a.eval y = .agg (VI k L')) (hK : ∀ w', Ev B w rv l ((g, .cells (VI k L') T) :: bx) w' → K a w') : Oper.wp Try.prog op a W K Q := by
  refine wp_store_mid (P := Try.prog) ty x y ho g 0 (VI k L') hx hy ?_ ?_ (VI_one _ _) ?_
  · rw [VI_size, hl]; exact row_there (h.row (List.mem_cons_self ..))
  · rw [VI_size, hl]; exact hi
  · rw [hd]; exact hK _ (h.storeRow hne hl)
end
theorem infoN : (Try.prog.info? 69).map (·.size) = some 5 := by kernel_rfl
theorem zero5_lit : VI .u64 (List.replicate 5 0) = #[.int .u64 0, .int .u64 0, .int .u64 0, .int .u64 0, .int .u64 0] := rfl
theorem zero17_lit : VI .u8 (List.replicate 17 0) = #[.int .u8 0, .int .u8 0, .int .u8 0, .int .u8 0, .int .u8 0, .int .u8 0, .int .u8 0, .int .u8 0, .int .u8 0, .int .u8 0, .int .u8 0, .int .u8 0, .int .u8 0, .int .u8 0, .int .u8 0, .int .u8 0, .int .u8 0] := rfl
theorem zero16_lit : VI .u8 (List.replicate 16 0) = #[.int .u8 0, .int .u8 0, .int .u8 0, .int .u8 0, .int .u8 0, .int .u8 0, .int .u8 0, .int .u8 0, .int .u8 0, .int .u8 0, .int .u8 0, .int .u8 0, .int .u8 0, .int .u8 0, .int .u8 0, .int .u8 0] := rfl
set_option maxRecDepth 100000 in
set_option maxHeartbeats 4000000 in
theorem with_any {B : Nat} {w : World} {rv : Value} {l : List (Int × Int)} {bx : List (Nat × Obj)} {W : World} (h : Ev B w rv l bx W) (hl : rv ≠ .pointer none → l.length ≤ 900000) {g : Nat} {r m s b : List Int} {hd : Nat} (hg : (g, macO rv r m s b hd) ∈ bx) (hM : MS r m s b) {sm bb : List Int} (hs : Lim sm) (hb : Key17 bb) :
    Calls Try.prog 27 #[.pointer (some ⟨g, 0, none⟩), .agg (VI .u64 sm), .agg (VI .u8 bb)] W fun e w' => e = .returned (.agg (VI .u64 (wth r sm bb))) ∧ Ev B w rv (l ++ tkl) bx w' := by
  obtain ⟨q, hq⟩ : ∃ q, W.heap.size = q := ⟨_, rfl⟩
  have e3 := ((h.new (.cells (VI .u64 sm) 69)).new (.cells (VI .u8 bb) 71)).new (.cells (VI .u64 (List.replicate 5 0)) 69)
  simp only [size_alloc, hq] at e3
  obtain ⟨W0, hW0⟩ : ∃ V, ((W.alloc (.cells (VI .u64 sm) 69)).alloc (.cells (VI .u8 bb) 71)).alloc (.cells (VI .u64 (List.replicate 5 0)) 69) = V := ⟨_, rfl⟩
  rw [hW0] at e3
  rw [zero5_lit] at hW0
  have hbxq : ∀ p ∈ bx, p.1 < q := fun p hp => by rw [← hq]; exact heap_lt (h.at' p hp)
  have E3 : Hid _ := e3
  have HM : Hid (MS r m s b) := hM
  have HL : Hid ((rv ≠ .pointer none → l.length ≤ 900000) ∧ Lim sm ∧ Key17 bb ∧ (g, macO rv r m s b hd) ∈ bx ∧ ∀ p ∈ bx, p.1 < q) := ⟨hl, hs, hb, hg, hbxq⟩
  clear e3 h hM hl hs hb hg hbxq
  have HI5 : Hid ((Try.prog.info? 69).map (·.size) = some (VI .u64 sm).size) := by
    have : (Try.prog.info? 69).map (·.size) = some (VI .u64 sm).size := by rw [VI_size, HL.out.2.1.len]; exact infoN
    exact this
  have HI17 : Hid ((Try.prog.info? 71).map (·.size) = some (VI .u8 bb).size) := HL.out.2.2.1.info
  go_enter Try.func27, Try.ntmps27
  go_upto_region 1 with fail
  refine wp_as (c' := rgWi1) (by kernel_rfl) ?_
  have hz0 : Lim (blk bb) := blk_lim HL.out.2.2.1.bd
  have hz1 := add_lim HL.out.2.1 hz0
  have hz2 := prod_lim hz1 HM.out.r
  refine Wi1 (g := g) (h := hd) (rv := rv) (r := r) (m := m) (s := s) (b := b) (p4 := q) (p5 := q + 1) (p6 := q + 1 + 1) (sm := sm) (bb := bb) (z0 := blk bb) (z1 := stl (List.zipWith (· + ·) sm (blk bb))) (z2 := wth r sm bb)
    (R0 := Ev B w rv l ((q + 1 + 1, .cells (VI .u64 (List.replicate 5 0)) 69) :: (q + 1, .cells (VI .u8 bb) 71) :: (q, .cells (VI .u64 sm) 69) :: bx))
    (R1 := Ev B w rv l ((q + 1 + 1, .cells (VI .u64 (List.replicate 5 0)) 69) :: (q + 1, .cells (VI .u8 bb) 71) :: (q, .cells (VI .u64 sm) 69) :: bx))
    (R2 := Ev B w rv (l ++ [(3, 11)]) ((q + 1 + 1, .cells (VI .u64 (List.replicate 5 0)) 69) :: (q + 1, .cells (VI .u8 bb) 71) :: (q, .cells (VI .u64 sm) 69) :: bx))
    (R3 := Ev B w rv (l ++ [(3, 11)] ++ [(3, 12)]) ((q + 1 + 1, .cells (VI .u64 (List.replicate 5 0)) 69) :: (q + 1, .cells (VI .u8 bb) 71) :: (q, .cells (VI .u64 sm) 69) :: bx))
    (R4 := Ev B w rv (l ++ [(3, 11)] ++ [(3, 12)]) ((q + 1 + 1, .cells (VI .u64 (wth r sm bb)) 69) :: (q + 1, .cells (VI .u8 bb) 71) :: (q, .cells (VI .u64 sm) 69) :: bx))
    HM HL.out.2.1.len HL.out.2.2.1.len E3.out.drew ?_ ?_ ?_ ?_ ?_ ?_ ?_ ?_ ?_ (fun _ _ d _ _ h => by cases d <;> exact h) ?_
  · exact fun Y h => ⟨h.row (memr3 HL.out.2.2.2.1), row_range (h.row mem2), row_range (h.row mem1)⟩
  · exact fun Y h => (block_any bb HL.out.2.2.1 Y).mono fun e w' hh => ⟨hh.1, h.below hh.2⟩
  · exact fun Y h => ⟨h.row (memr3 HL.out.2.2.2.1), row_range (h.row mem2), row_range (h.row mem1)⟩
  · exact fun Y h => v_add h (fun hr => by have := HL.out.1 hr; omega) HL.out.2.1 hz0
  · exact fun Y h => ⟨h.row (memr3 HL.out.2.2.2.1), row_range (h.row mem2), row_range (h.row mem1)⟩
  · exact fun Y h => v_mul h (fun hr => by have := HL.out.1 hr; simp; omega) hz1 HM.out.r
  · exact fun Y h => ⟨h.row (memr3 HL.out.2.2.2.1), row_range (h.row mem2), row_range (h.row mem1)⟩
  · intro Y h a o K Q ho hd hx hy hK
    refine wp_storeBox h ?_ (by rw [List.length_replicate]; exact hz2.len) (by rw [List.length_replicate]; exact infoN) ho hd hx hy hK
    intro p hp
    simp only [List.mem_cons] at hp
    rcases hp with rfl | rfl | hp
    · show q + 1 ≠ q + 1 + 1; omega
    · show q ≠ q + 1 + 1; omega
    · have := HL.out.2.2.2.2 p hp; omega
  · exact fun Y h => ⟨h.row (memr3 HL.out.2.2.2.1), row_range (h.row mem2), row_range (h.row mem1)⟩
  · intro W9 h9
    have hr9 := h9.row (List.mem_cons_self ..)
    have HF : Hid (Ev B w rv (l ++ tkl) bx W9) := by
      have h' := h9.sub (by' := bx) (fun p hp => by simp [hp])
      rw [List.append_assoc] at h'
      exact h'
    have HR9 : Hid (W9.heap[q + 1 + 1]? = some (.cells (VI .u64 (wth r sm bb)) 69)) := hr9
    have HI9 : Hid ((Try.prog.info? 69).map (·.size) = some (VI .u64 (wth r sm bb)).size) := by
      have : (Try.prog.info? 69).map (·.size) = some (VI .u64 (wth r sm bb)).size := by rw [VI_size]; exact hz2.len ▸ infoN
      exact this
    clear hr9 h9
    go_wp2
    refine bodyPost_ret (v := .agg (VI .u64 (wth r sm bb))) ?_ rfl ⟨rfl, HF.out⟩
    exact results_cell_row (P := Try.prog) (fn := Try.f27) (p := 6) (ty := 69) rfl _ _ (q + 1 + 1) 69 (VI .u64 (wth r sm bb)) (0, 0) _ rfl HR9.out Try.underlying69 rfl HI9.out
end Go.Proofs.Ytgfamcadgahiiab
