import Derived.Test.YtgfamcadgahiiabMacC
namespace Go.Proofs.Ytgfamcadgahiiab
set_option linter.unusedSimpArgs false
set_option linter.unusedVariables false
open Go.ChangeShapes Go.WideShapes Go.ChangeAt Go.RowKit Go.Pin Go.Prm
theorem info_u8 : (Try.prog.info? 5).map (·.size) = some 1 := by kernel_rfl
theorem Ev.flip {B : Nat} {w : World} {rv : Value} {l : List (Int × Int)} {bx : List (Nat × Obj)} {W : World} {p q : Nat × Obj} (h : Ev B w rv l (p :: q :: bx) W) : Ev B w rv l (q :: p :: bx) W := h.sub (fun x hx => by
  simp only [List.mem_cons] at hx ⊢
  rcases hx with h | h | h
  · exact .inr (.inl h)
  · exact .inl h
  · exact .inr (.inr h))
theorem Ev.tail {B : Nat} {w : World} {rv : Value} {l : List (Int × Int)} {bx : List (Nat × Obj)} {W : World} {p : Nat × Obj} (h : Ev B w rv l (p :: bx) W) : Ev B w rv l bx W := h.sub (fun x hx => List.mem_cons_of_mem _ hx)
/-- bytes are copied into a part of a box -/
theorem Ev.copyInto {B : Nat} {w : World} {rv : Value} {l : List (Int × Int)} {bx : List (Nat × Obj)} {W : World} {g : Nat} {A X X' C : List Int} {T : TypeId} (h : Ev B w rv l ((g, .cells (VI .u8 (A ++ (X ++ C))) T) :: bx) W) (hne : ∀ p ∈ bx, p.1 ≠ g) (hl : X'.length = X.length) : Ev B w rv l ((g, .cells (VI .u8 (A ++ (X' ++ C))) T) :: bx) (W.setCells g A.length (X'.map (Value.int .u8))) := by
  refine h.set rfl hne (grow_setCells g _ _ W) ?_
  have h0 : W.heap[g]? = some (.cells (A.map (Value.int .u8) ++ (X.map (Value.int .u8) ++ C.map (Value.int .u8))).toArray T) := by simpa [VI] using h.row mem0
  have := heap_setCells_row g (X'.map (Value.int .u8)) _ _ _ W (by simpa using hl) h0
  simpa [VI] using this
theorem run_copyX {W : World} {gd od dl dc gs os sl sc : Nat} {X : List Int} (ty : TypeId) (hn : X.length = Nat.min sl dl) (hs : W.rangeAt gs os (X.map (Value.int .u8))) (ht : W.there gd od X.length) :
    (Builtin.copy_ #[32, 32] ty #[.slice (some ⟨gd, od, none⟩) dl dc, .slice (some ⟨gs, os, none⟩) sl sc]).run Try.prog W = .ok (.int .i64 (X.length : Int)) (W.setCells gd od (X.map (Value.int .u8))) := by
  have := run_copy_cells (P := Try.prog) W 32 32 ty 5 gd od dl dc ⟨gs, os, none⟩ sl sc (X.map (Value.int .u8)) Try.underlying32 info_u8 (by rw [List.length_map]; exact hn)
    (fun j v hv => by rw [add_mid]; exact hs j v hv) (fun j hj => (ht j (by simpa using hj)).1) (fun j hj => (ht j (by simpa using hj)).2) (fun v hv => by
      simp only [List.mem_map] at hv
      obtain ⟨x, _, rfl⟩ := hv
      rfl)
  rw [this, List.length_map]
  rfl
set_option maxRecDepth 100000 in
set_option maxHeartbeats 4000000 in
theorem take_any {B : Nat} {w : World} {rv : Value} {l : List (Int × Int)} {bx : List (Nat × Obj)} {W : World} {g : Nat} {r m s b : List Int} {hd : Nat} (h : Ev B w rv l ((g, macO rv r m s b hd) :: bx) W) (hne : ∀ p ∈ bx, p.1 ≠ g) (hl : rv ≠ .pointer none → l.length ≤ 900000) (hM : MS r m s b) {pb po : Nat} {X : List Int} (hX : X.length = 16) (hXb : Byt X) (hr : W.rangeAt pb po (X.map (Value.int .u8))) :
    Calls Try.prog 26 #[.pointer (some ⟨g, 0, none⟩), .pointer (some ⟨pb, po, none⟩)] W fun e w' => e = .returned (.tuple #[]) ∧ Ev B w rv (l ++ tkl) ((g, macO rv r m (wth r s (blkOf X)) b hd) :: bx) w' := by
  obtain ⟨q, hq⟩ : ∃ q, W.heap.size = q := ⟨_, rfl⟩
  have e3 := h.new (.cells (VI .u8 (List.replicate 17 0)) 71)
  obtain ⟨W0, hW0⟩ : ∃ V, W.alloc (.cells (VI .u8 (List.replicate 17 0)) 71) = V := ⟨_, rfl⟩
  rw [hW0, hq] at e3
  have hr0 : W0.rangeAt pb po (X.map (Value.int .u8)) := by rw [← hW0]; exact World.rangeAt_alloc hr _
  rw [zero17_lit] at hW0
  have hbxq : ∀ p ∈ (g, macO rv r m s b hd) :: bx, p.1 ≠ q := fun p hp => by have := heap_lt (h.at' p hp); omega
  have hgq : g < q := by rw [← hq]; exact h.lt mem0
  have E3 : Hid _ := e3
  have HM : Hid (MS r m s b) := hM
  have HL : Hid ((rv ≠ .pointer none → l.length ≤ 900000) ∧ X.length = 16 ∧ Byt X ∧ (∀ p ∈ bx, p.1 ≠ g) ∧ (∀ p ∈ (g, macO rv r m s b hd) :: bx, p.1 ≠ q) ∧ g < q) := ⟨hl, hX, hXb, hne, hbxq, hgq⟩
  have HR0 : Hid (W0.rangeAt pb po (X.map (Value.int .u8))) := hr0
  clear e3 h hM hl hX hXb hne hbxq hr hr0 hgq
  go_enter Try.func26, Try.ntmps26
  go_upto_region 1 with fail
  refine wp_as (c' := rgTa1) (by kernel_rfl) ?_
  refine Ta1 (bb := pb) (oo := po) (p4 := q)
    (R0 := fun Y => Ev B w rv l ((q, .cells (VI .u8 (List.replicate 17 0)) 71) :: (g, macO rv r m s b hd) :: bx) Y ∧ Y.rangeAt pb po (X.map (Value.int .u8)))
    (R1 := Ev B w rv l ((q, .cells (VI .u8 (X ++ [0])) 71) :: (g, macO rv r m s b hd) :: bx))
    ⟨E3.out.drew, by simpa using HR0.out⟩ (fun _ _ => trivial) ?_ (fun _ _ => trivial) (fun _ _ d _ _ h => by cases d <;> exact h) ?_
  · intro Y ⟨h, hs⟩ a o K Q ho hd hx hy hK
    have ht := row_there (h.row mem0)
    rw [List.length_replicate] at ht
    refine wpBuiltin (w' := Y.setCells q 0 (X.map (Value.int .u8))) (z := .int .i64 16) ho hd hx hy ?_ ?_
    · have := run_copyX (W := Y) (gd := q) (od := 0) (dl := 17) (dc := 17) (sl := 16) (sc := 16) o.type (by rw [HL.out.2.1]; rfl) hs (fun j hj => ht j (by rw [HL.out.2.1] at hj; omega))
      rw [HL.out.2.1] at this
      exact this
    · refine hK _ ?_
      have := Ev.copyInto (A := []) (X := List.replicate 16 0) (X' := X) (C := [0]) h HL.out.2.2.2.2.1 (by rw [HL.out.2.1, List.length_replicate])
      exact this
  intro W1 h1
  have H1 : Hid _ := h1
  have c16 : W1.cell? ⟨q, 16, none⟩ = some (.int .u8 0) := by
    rw [cell_of_row W1 _ _ _ _ _ (h1.row mem0), VI_at _ _ _ (by simp [HL.out.2.1]), List.getD_eq_getElem?_getD, List.getElem?_append_right (by rw [HL.out.2.1]; omega), HL.out.2.1]
    rfl
  have f16 : W1.frozen? ⟨q, 16, none⟩ = false := frozen_of_row W1 _ _ _ _ (h1.row mem0)
  have H2 : Hid (Ev B w rv l ((q, .cells (VI .u8 (X ++ [1])) 71) :: (g, macO rv r m s b hd) :: bx) (W1.setCell ⟨q, 16, none⟩ (.int .u8 1))) := by
    have := Ev.copyInto (A := X) (X := [0]) (X' := [1]) (C := []) h1 HL.out.2.2.2.2.1 rfl
    rw [HL.out.2.1] at this
    exact this
  clear h1
  obtain ⟨W2, hW2⟩ : ∃ V, W1.setCell ⟨q, 16, none⟩ (.int .u8 1) = V := ⟨_, rfl⟩
  rw [hW2] at H2
  go_upto_region 3 with fail
  refine wp_as (c' := rgTa3) (by kernel_rfl) ?_
  have hz := wth_lim HM.out.r HM.out.s (blkOf_byt HL.out.2.2.1)
  rw [blkOf_full HL.out.2.1] at hz
  have hK : Key17 (X ++ [1]) := ⟨by simp [HL.out.2.1], fun x hx => by
    rcases List.mem_append.1 hx with hx | hx
    · exact HL.out.2.2.1 x hx
    · rw [List.mem_singleton.1 hx]; decide⟩
  refine Ta3 (g := g) (h := hd) (rv := rv) (r := r) (m := m) (s := s) (b := b) (p4 := q) (bb := X ++ [1]) (z := wth r s (X ++ [1]))
    (R0 := Ev B w rv l ((q, .cells (VI .u8 (X ++ [1])) 71) :: (g, macO rv r m s b hd) :: bx))
    (R1 := Ev B w rv (l ++ tkl) ((q, .cells (VI .u8 (X ++ [1])) 71) :: (g, macO rv r m s b hd) :: bx))
    (R2 := Ev B w rv (l ++ tkl) ((g, macO rv r m (wth r s (X ++ [1])) b hd) :: (q, .cells (VI .u8 (X ++ [1])) 71) :: bx))
    HM hK.len (fun Y h => mac_sum HM.out.r.len HM.out.m.len (h.row mem1)) H2.out.drew (fun Y h => row_range (h.row mem0)) ?_ (fun Y h => row_range (h.row mem0)) ?_ (fun Y h => row_range (h.row mem1)) (fun _ _ d _ _ h => by cases d <;> exact h) ?_
  · exact fun Y h => with_any h HL.out.1 mem1 HM.out HM.out.s hK
  · intro Y h a o K Q ho hd hx hy hK'
    have hgr := h.row mem1
    refine wp_store_mid (P := Try.prog) _ _ _ ho g 22 (VI .u64 (wth r s (X ++ [1]))) hx hy ?_ ?_ (VI_one _ _) ?_
    · rw [VI_size, hz.len]
      intro j hj
      refine ⟨?_, mac_froz hgr _⟩
      rw [mac_sum HM.out.r.len HM.out.m.len hgr j _ (List.getElem?_eq_getElem (by rw [List.length_map, HM.out.s.len]; exact hj))]
      rfl
    · rw [VI_size, hz.len]; exact infoN
    · rw [hd]
      refine hK' _ ?_
      refine h.flip.set rfl (fun p hp => ?_) (grow_setCells g _ 22 Y) ?_
      · rcases List.mem_cons.1 hp with rfl | hp
        · have := HL.out.2.2.2.2.2; show q ≠ g; omega
        · exact HL.out.2.2.2.1 p hp
      · exact mac_setS HM.out.r.len HM.out.m.len (by rw [hz.len, HM.out.s.len]) hgr
  intro W9 h9
  have HF : Hid (Ev B w rv (l ++ tkl) ((g, macO rv r m (wth r s (blkOf X)) b hd) :: bx) W9) := by
    rw [blkOf_full HL.out.2.1]
    exact h9.flip.tail
  clear h9
  go_wp2
  first | go_end0 | refine bodyPost_ret (results_none rfl _ _ _) rfl ?_
  exact ⟨rfl, HF.out⟩
end Go.Proofs.Ytgfamcadgahiiab
