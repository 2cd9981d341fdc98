import Derived.Laws.MakeOwn
import Derived.Deep.Slices
import Derived.Test.YtfkbgodfcnmepaaDoorDmaj
import Derived.Test.YtfkbgodfcnmepaaDoorDmag
namespace Go.Proofs.YtfkbgodfcnmepaaDoor
set_option linter.unusedSimpArgs false
set_option linter.unusedVariables false
open Go.ChangeShapes Go.WideShapes Go.ChangeAt Go.RowKit Go.Pin Go.Str Go.Dig
theorem getD_pad (b : List Int) (m i : Nat) : (b ++ List.replicate m (0 : Int)).getD i 0 = b.getD i 0 := by
  simp only [List.getD]
  by_cases hi : i < b.length
  · rw [List.getElem?_append_left hi]
  · rw [List.getElem?_append_right (by omega), List.getElem?_eq_none (show b.length ≤ i by omega)]
    by_cases hm : i - b.length < m
    · simp [List.getElem?_replicate, hm]
    · rw [List.getElem?_eq_none (by simp; omega)]
theorem wds_pad (b : List Int) (m : Nat) : wds (b ++ List.replicate m (0 : Int)) = wds b := by
  unfold wds
  refine List.map_congr_left fun i _ => ?_
  unfold wdi
  simp only [getD_pad]
theorem prs_pad (h : List Nat) (b : List Int) (m c k : Nat) : prs h (b ++ List.replicate m (0 : Int)) c k = prs h b c k := by
  unfold prs
  rw [wds_pad]
theorem hs_word {w : World} {g : Nat} {rv : Value} {size : Nat} {st : List Nat} {pr : Nat} {blk : List Int} {held : Nat} (hg : w.heap[g]? = some (hsO rv size st pr blk held)) (i : Nat) (hi : i < st.length) : w.cell? ⟨g, 2 + i, none⟩ = some (.int .u32 ((st.getD i 0 : Nat) : Int)) := (hs_rs hg).cell rfl hi
theorem eight {l : List Nat} (h : l.length = 8) : ∃ x0 x1 x2 x3 x4 x5 x6 x7, l = [x0, x1, x2, x3, x4, x5, x6, x7] := by
  match l, h with
  | [x0, x1, x2, x3, x4, x5, x6, x7], _ => exact ⟨x0, x1, x2, x3, x4, x5, x6, x7, rfl⟩
theorem vi_puts {g : Nat} {T : TypeId} : ∀ (vs : List Int) {w : World} {L : List Int} {o : Nat}, w.heap[g]? = some (.cells (VI .u8 L) T) → (w.setCells g o (vs.map (Value.int .u8))).heap[g]? = some (.cells (VI .u8 (putb L o vs)) T)
  | [], _, _, _, h => h
  | v :: r, w, L, o, h => by
    have h1 : (w.setCell ⟨g, o, none⟩ (.int .u8 v)).heap[g]? = some (.cells (VI .u8 (L.set o v)) T) := by
      rw [heap_setCell_same w _ _ _ _ _ h]
      simp [VI, List.map_set]
    exact vi_puts r (L := L.set o v) (o := o + 1) h1
theorem held_range {w : World} {g : Nat} {rv : Value} {size : Nat} {st : List Nat} {pr : Nat} {A blk : List Int} {held : Nat} (hs : st.length = 8) (hS : HSb A blk) (hg : w.heap[g]? = some (hsO rv size st pr blk held)) : w.rangeAt g 11 ((hld A).map (Value.int .u8)) := fun j v hv => by
  have hj : j < (hld A).length := by have := (List.getElem?_eq_some_iff.1 hv).1; simpa using this
  have h64 := hld_le A
  rw [hs_blk hs hS.1 hg (show j < 64 by omega), ← hv, List.getElem?_map]
  have e : (hld A)[j]? = blk[j]? := by rw [← hS.2.2, List.getElem?_take, if_pos hj]
  rw [e, List.getElem?_eq_getElem (show j < blk.length by rw [hS.1]; omega)]
  simp [List.getD, List.getElem?_eq_getElem (show j < blk.length by rw [hS.1]; omega)]
theorem there_vi {w : World} {g : Nat} {T : TypeId} {L : List Int} {n : Nat} (hn : n ≤ L.length) (h : w.heap[g]? = some (.cells (VI .u8 L) T)) : w.there g 0 n := fun j hj => by
  refine ⟨?_, frozen_of_row w _ _ _ _ h⟩
  rw [cell_of_row w _ _ _ _ _ h, VI_at _ _ _ (by omega)]
  rfl
theorem parts_u8 : (Tryd.prog.info? 5).map (fun i => (i.zero, i.size, i.bytes)) = some (some (.int .u8 0), 1, 1) := by kernel_rfl
set_option maxRecDepth 10000 in
theorem mk_b (n : Nat) (x : Int) (hx : x = (n : Int)) (hn : n ≤ 1000000) (w : World) : (Instr.makeSlice 22 (.int .i64 x) (.int .i64 x)).run Tryd.prog w = .ok (.slice (some ⟨w.heap.size, 0, none⟩) n n) (w.alloc (.cells (VI .u8 (List.replicate n 0)) 5)) := by
  subst hx
  obtain ⟨i0, hi, hz⟩ := Option.map_eq_some_iff.1 parts_u8
  simp only [Prod.mk.injEq] at hz
  obtain ⟨hz0, hz1, hz2⟩ := hz
  have := run_makeSlice (P := Tryd.prog) w 22 5 i0 (.int .u8 0) Tryd.underlying22 hi hz0 .i64 .i64 (n : Int) (n : Int) (by omega) (Int.le_refl _) (by rw [hz1]; omega) (by rw [hz2]; omega) (by omega)
  rw [this, hz1, Int.toNat_natCast]
  congr 3
  apply Array.ext'
  simp [madeCells, Value.cells, VI]
  refine List.eq_replicate_iff.2 ⟨by simp, ?_⟩
  simp
  intro a _
  rw [Nat.mod_one]
  rfl
/-- what Sum leaves -/
def SuOk (B : Nat) (w : World) (rv : Value) (L : List (Int × Int)) (bx : List (Nat × Obj)) (R : List Int) (g2 : Nat) (w' : World) : Prop :=
  (∀ p ∈ bx, p.1 ≠ g2) ∧ Ev B w rv L ((g2, .cells (VI .u8 R) 5) :: bx) w'
set_option maxRecDepth 100000 in
set_option maxHeartbeats 8000000 in
theorem dsum_any {B : Nat} {w : World} {rv : Value} {l : List (Int × Int)} {bx : List (Nat × Obj)} {W : World} {g s : Nat} {h : List Nat} {A blk : List Int} (hS : HSb A blk) (hE : Ev B w rv l ((g, (hst rv s h A blk)) :: bx) W) (hh : S8 h) (hs : s ≤ 32) (hl : rv ≠ .pointer none → l.length ≤ 900000) (hne : ∀ p ∈ bx, p.1 ≠ g) (hlen : A.length < 4611686018427387904) (hB : Beg w) (h2 : 2 ≤ B) :
    Calls Tryd.prog 22 #[.pointer (some ⟨g, 0, none⟩)] W fun e w' => ∃ g2, e = .returned (.slice (some ⟨g2, 0, none⟩) s s) ∧ SuOk B w rv (l ++ [(2, ((hld A).length : Int)), (3, 31)]) ((g, (hst rv s h A blk)) :: bx) (spl (dgw h A) s) g2 w' := by
  have HS8 : Hid (S8 h) := hh
  have HNE : Hid (∀ p ∈ bx, p.1 ≠ g) := hne
  have HB : Hid (Beg w ∧ 2 ≤ B) := ⟨hB, h2⟩
  have HL : Hid ((rv ≠ .pointer none → l.length ≤ 900000) ∧ A.length < 4611686018427387904 ∧ s ≤ 32) := ⟨hl, hlen, hs⟩
  have HSB : Hid (HSb A blk) := hS
  have HQ8 : Hid ((prn h A (nbl A.length)).length = 8) := (prn_s8 HS8.out A _).len
  obtain ⟨st, hst0⟩ : ∃ st, prn h A (nbl A.length) = st := ⟨_, rfl⟩
  obtain ⟨hn, hhn⟩ : ∃ hn, (hld A).length = hn := ⟨_, rfl⟩
  obtain ⟨pq, hpq⟩ : ∃ pq, 64 * nbl A.length = pq := ⟨_, rfl⟩
  have HST : Hid (prn h A (nbl A.length) = st ∧ (hld A).length = hn ∧ 64 * nbl A.length = pq ∧ S8 st) := ⟨hst0, hhn, hpq, hst0 ▸ prn_s8 HS8.out A _⟩
  have EH : (hst rv s h A blk) = hsO rv s st pq blk hn := by unfold hst; rw [hst0, hhn, hpq]
  rw [EH] at hE ⊢
  rw [hhn]
  have HE : Hid (Ev B w rv l ((g, hsO rv s st pq blk hn) :: bx) W) := hE
  have HX : Hid (W.heap[g]? = some (hsO rv s st pq blk hn)) := hE.row mem0
  clear hS hE hh hl hne hlen hB h2 hs EH hst0 hhn hpq
  obtain ⟨x0, x1, x2, x3, x4, x5, x6, x7, hxs⟩ := eight HST.out.2.2.2.len
  have HXS : Hid (st = [x0, x1, x2, x3, x4, x5, x6, x7]) := hxs
  rw [hxs] at HX
  have k0 : W.cell? ⟨g, 2, none⟩ = some (.int .u32 ((x0 : Nat) : Int)) := hs_word HX.out 0 (by simp)
  have k1 : W.cell? ⟨g, 3, none⟩ = some (.int .u32 ((x1 : Nat) : Int)) := hs_word HX.out 1 (by simp)
  have k2 : W.cell? ⟨g, 4, none⟩ = some (.int .u32 ((x2 : Nat) : Int)) := hs_word HX.out 2 (by simp)
  have k3 : W.cell? ⟨g, 5, none⟩ = some (.int .u32 ((x3 : Nat) : Int)) := hs_word HX.out 3 (by simp)
  have k4 : W.cell? ⟨g, 6, none⟩ = some (.int .u32 ((x4 : Nat) : Int)) := hs_word HX.out 4 (by simp)
  have k5 : W.cell? ⟨g, 7, none⟩ = some (.int .u32 ((x5 : Nat) : Int)) := hs_word HX.out 5 (by simp)
  have k6 : W.cell? ⟨g, 8, none⟩ = some (.int .u32 ((x6 : Nat) : Int)) := hs_word HX.out 6 (by simp)
  have k7 : W.cell? ⟨g, 9, none⟩ = some (.int .u32 ((x7 : Nat) : Int)) := hs_word HX.out 7 (by simp)
  clear HX hxs
  go_enter Tryd.func22, Tryd.ntmps22
  go_upto_region 4 with fail
  obtain ⟨p3, hp3⟩ : ∃ p3, W.heap.size = p3 := ⟨_, rfl⟩
  have H3 : Hid (Ev B w rv l ((p3, .cells (cellsW st).toArray 63) :: (g, hsO rv s st pq blk hn) :: bx) (W.alloc (.cells (cellsW [x0, x1, x2, x3, x4, x5, x6, x7]).toArray 63))) := by
    have := HE.out.new (.cells (cellsW st).toArray 63)
    rw [hp3] at this
    rw [← HXS.out]
    exact this
  have HN3 : Hid (g ≠ p3 ∧ ∀ p ∈ bx, p.1 ≠ p3) := ⟨by have := HE.out.lt mem0; omega, fun p hp e => by have := heap_lt (HE.out.at' p (List.mem_cons_of_mem _ hp)); omega⟩
  rw [hp3]
  obtain ⟨W1, hW1⟩ : ∃ V, W.alloc (.cells (cellsW [x0, x1, x2, x3, x4, x5, x6, x7]).toArray 63) = V := ⟨_, rfl⟩
  rw [hW1] at H3
  have hW1' : W.alloc (.cells #[Value.int IntKind.u32 ↑x0, Value.int IntKind.u32 ↑x1, Value.int IntKind.u32 ↑x2, Value.int IntKind.u32 ↑x3, Value.int IntKind.u32 ↑x4, Value.int IntKind.u32 ↑x5, Value.int IntKind.u32 ↑x6, Value.int IntKind.u32 ↑x7] 63) = W1 := hW1
  rw [hW1']
  clear hW1 hW1' hp3 HE
  clear k0 k1 k2 k3 k4 k5 k6 k7
  go_upto_region 5 with fail
  obtain ⟨p4, hp4⟩ : ∃ p4, W1.heap.size = p4 := ⟨_, rfl⟩
  have H4 : Hid (Ev B w rv l ((p4, .cells (VI .u8 z64) 65) :: (p3, .cells (cellsW st).toArray 63) :: (g, hsO rv s st pq blk hn) :: bx) (W1.alloc (.cells (VI .u8 z64) 65))) := by
    have := H3.out.new (.cells (VI .u8 z64) 65)
    rw [hp4] at this
    exact this
  have HN4 : Hid (g ≠ p4 ∧ p3 ≠ p4 ∧ ∀ p ∈ bx, p.1 ≠ p4) := ⟨by have := H3.out.lt mem1; omega, by have := H3.out.lt mem0; omega, fun p hp e => by have := heap_lt (H3.out.at' p (memr2 hp)); omega⟩
  rw [hp4]
  obtain ⟨W2, hW2⟩ : ∃ V, W1.alloc (.cells (VI .u8 z64) 65) = V := ⟨_, rfl⟩
  rw [hW2] at H4
  have hW2' : W1.alloc (.cells #[Value.int IntKind.u8 0, Value.int IntKind.u8 0, Value.int IntKind.u8 0, Value.int IntKind.u8 0, Value.int IntKind.u8 0, Value.int IntKind.u8 0, Value.int IntKind.u8 0, Value.int IntKind.u8 0, Value.int IntKind.u8 0, Value.int IntKind.u8 0, Value.int IntKind.u8 0, Value.int IntKind.u8 0, Value.int IntKind.u8 0, Value.int IntKind.u8 0, Value.int IntKind.u8 0, Value.int IntKind.u8 0, Value.int IntKind.u8 0, Value.int IntKind.u8 0, Value.int IntKind.u8 0, Value.int IntKind.u8 0, Value.int IntKind.u8 0, Value.int IntKind.u8 0, Value.int IntKind.u8 0, Value.int IntKind.u8 0, Value.int IntKind.u8 0, Value.int IntKind.u8 0, Value.int IntKind.u8 0, Value.int IntKind.u8 0, Value.int IntKind.u8 0, Value.int IntKind.u8 0, Value.int IntKind.u8 0, Value.int IntKind.u8 0, Value.int IntKind.u8 0, Value.int IntKind.u8 0, Value.int IntKind.u8 0, Value.int IntKind.u8 0, Value.int IntKind.u8 0, Value.int IntKind.u8 0, Value.int IntKind.u8 0, Value.int IntKind.u8 0, Value.int IntKind.u8 0, Value.int IntKind.u8 0, Value.int IntKind.u8 0, Value.int IntKind.u8 0, Value.int IntKind.u8 0, Value.int IntKind.u8 0, Value.int IntKind.u8 0, Value.int IntKind.u8 0, Value.int IntKind.u8 0, Value.int IntKind.u8 0, Value.int IntKind.u8 0, Value.int IntKind.u8 0, Value.int IntKind.u8 0, Value.int IntKind.u8 0, Value.int IntKind.u8 0, Value.int IntKind.u8 0, Value.int IntKind.u8 0, Value.int IntKind.u8 0, Value.int IntKind.u8 0, Value.int IntKind.u8 0, Value.int IntKind.u8 0, Value.int IntKind.u8 0, Value.int IntKind.u8 0, Value.int IntKind.u8 0] 65) = W2 := hW2
  rw [hW2']
  clear hW2 hW2' hp4 H3
  have HPT : Hid (putb z64 0 (hld A) = hld A ++ List.replicate (64 - hn) 0) := by
    have : putb z64 0 (hld A) = hld A ++ List.replicate (64 - hn) 0 := by
      rw [putb_zero _ _ (by rw [z64, List.length_replicate]; exact hld_le A), z64, List.drop_replicate, HST.out.2.1]
    exact this
  have HH : Hid (hn ≤ 64 ∧ pq + hn = A.length ∧ Byb (hld A)) := by
    have h1 := hld_le A
    have h2 := hld_len A
    have h3 := nbl_le A.length
    have h4 := HST.out
    have : hn ≤ 64 ∧ pq + hn = A.length ∧ Byb (hld A) := ⟨by omega, by omega, fun x hx => HSB.out.2.1 x (List.mem_of_mem_take (HSB.out.2.2 ▸ hx))⟩
    exact this
  refine wp_as (c' := rgSu5) (by kernel_rfl) ?_
  refine Su5 (g := g) (h := hn) (p := pq) (rv := rv) (p4 := p4) (kv := .int .i64 (hn : Int))
    (R0 := Ev B w rv (l) ((p4, .cells (VI .u8 z64) 65) :: (p3, .cells (cellsW st).toArray 63) :: (g, hsO rv s st pq blk hn) :: bx)) (R1 := Ev B w rv (l ++ [(2, (hn : Int))]) ((p4, .cells (VI .u8 z64) 65) :: (p3, .cells (cellsW st).toArray 63) :: (g, hsO rv s st pq blk hn) :: bx)) (R2 := Ev B w rv (l ++ [(2, (hn : Int))]) ((p4, .cells (VI .u8 (putb z64 0 (hld A))) 65) :: (p3, .cells (cellsW st).toArray 63) :: (g, hsO rv s st pq blk hn) :: bx))
    HH.out.1 H4.out.drew (fun Y h => ⟨hs_r (h.row mem2), hs_held HST.out.2.2.2.len HSB.out.1 (h.row mem2), hs_pr HST.out.2.2.2.len (h.row mem2)⟩) ?_ (fun Y h => ⟨hs_r (h.row mem2), hs_held HST.out.2.2.2.len HSB.out.1 (h.row mem2), hs_pr HST.out.2.2.2.len (h.row mem2)⟩) ?_ (fun Y h => ⟨hs_r (h.row mem2), hs_held HST.out.2.2.2.len HSB.out.1 (h.row mem2), hs_pr HST.out.2.2.2.len (h.row mem2)⟩) (fun _ _ d _ _ h => by cases d <;> exact h) ?_
  · exact fun Y h => v_at h (fun hr => by have := HL.out.1 hr; omega) _
  · intro Y hY ac o K Q ho hd hx hy hK
    have hnew : Ev B w rv (l ++ [(2, (hn : Int))]) ((p4, .cells (VI .u8 (putb z64 0 (hld A))) 65) :: (p3, .cells (cellsW st).toArray 63) :: (g, hsO rv s st pq blk hn) :: bx) (Y.setCells p4 0 ((hld A).map (Value.int .u8))) := by
      refine hY.set rfl (fun p hp e => ?_) (grow_setCells p4 _ _ Y) ?_
      · simp only [List.mem_cons] at hp
        rcases hp with rfl | rfl | hp
        · exact HN4.out.2.1 e
        · exact HN4.out.1 e
        · exact HN4.out.2.2 p hp e
      · exact vi_puts (hld A) (hY.row mem0)
    refine wpBuiltin (w' := Y.setCells p4 0 ((hld A).map (Value.int .u8))) (z := .int .i64 (hn : Int)) ho hd hx hy ?_ (hK _ hnew)
    have := run_copyX (W := Y) (gd := p4) (od := 0) (dl := 64) (dc := 64) (sl := hn) (sc := 64) (gs := g) (os := 11) (X := hld A) o.type (by rw [HST.out.2.1]; exact (Nat.min_eq_left HH.out.1).symm) (held_range HST.out.2.2.2.len HSB.out (hY.row mem2)) (there_vi (by rw [z64, List.length_replicate]; exact hld_le A) (hY.row mem0))
    rw [HST.out.2.1] at this; exact this
  intro W5 h5
  have c0 := hs_r (h5.row mem2)
  have CO : Hid (Calls Tryd.prog 40 #[rv, .int .i64 31] W5 fun e w' => e = .returned (.tuple #[]) ∧ Ev B w rv (l ++ [(2, (hn : Int))] ++ [(3, 31)]) ((p4, .cells (VI .u8 (putb z64 0 (hld A))) 65) :: (p3, .cells (cellsW st).toArray 63) :: (g, hsO rv s st pq blk hn) :: bx) w') := v_op h5 (fun hr => by have := HL.out.1 hr; simp only [List.length_append, List.length_cons, List.length_nil]; omega) 31
  clear h5 H4
  go_upto_region 7 with (go_at_call 40; refine Calls.mono CO.out ?_; rintro e W6 ⟨rfl, h6⟩; have H6 : Hid _ := h6; clear h6 CO)
  clear c0
  refine wp_as (c' := rgSu7) (by kernel_rfl) ?_
  refine Su7 (g := g) (h := hn) (p := pq) (rv := rv) (p3 := p3) (p4 := p4)
    (R0 := Ev B w rv (l ++ [(2, (hn : Int))] ++ [(3, 31)]) ((p4, .cells (VI .u8 (putb z64 0 (hld A))) 65) :: (p3, .cells (cellsW st).toArray 63) :: (g, hsO rv s st pq blk hn) :: bx)) (R1 := Ev B w rv (l ++ [(2, (hn : Int))] ++ [(3, 31)]) ((p4, .cells (VI .u8 (putb z64 0 (hld A))) 65) :: (p3, .cells (cellsW (dgw h A)).toArray 63) :: (g, hsO rv s st pq blk hn) :: bx))
    HH.out.1 (by have := HH.out.2.1; have := HL.out.2.1; show pq + hn < 18446744073709551616; omega) H6.out.drew (fun Y h => ⟨hs_r (h.row mem2), hs_held HST.out.2.2.2.len HSB.out.1 (h.row mem2), hs_pr HST.out.2.2.2.len (h.row mem2)⟩) ?_ (fun Y h => ⟨hs_r (h.row mem2), hs_held HST.out.2.2.2.len HSB.out.1 (h.row mem2), hs_pr HST.out.2.2.2.len (h.row mem2)⟩) (fun _ _ d _ _ h => by cases d <;> exact h) ?_
  · intro Y hY
    have hbl : (putb z64 0 (hld A)).length = 64 := by rw [putb_len]; exact List.length_replicate
    have hbb : Byb (putb z64 0 (hld A)) := by
      rw [HPT.out]
      intro x hx
      rcases List.mem_append.1 hx with hx | hx
      · exact HH.out.2.2 x hx
      · rw [(List.mem_replicate.1 hx).2]; decide
    have hrs : RS Y p3 [] [] st 63 := by unfold RS; rw [List.nil_append, List.append_nil]; exact hY.row mem1
    have := press_any p3 0 p4 0 [] [] rfl 63 st HST.out.2.2.2 (putb z64 0 (hld A)) hbb (pq + hn) 4294967295 (by have := HH.out.2.1; have := HL.out.2.1; omega) (by decide) Y hrs (fun i hi => by rw [cell_of_row Y _ _ _ _ _ (hY.row mem0), Nat.zero_add, VI_at _ _ _ (by omega)]) (HB.out.1.below hY.old HB.out.2)
    refine this.mono ?_
    rintro e w' ⟨rfl, hg, hr⟩
    refine ⟨rfl, (hY.flip.set rfl (fun p hp e => ?_) hg ?_).flip⟩
    · simp only [List.mem_cons] at hp
      rcases hp with rfl | rfl | hp
      · exact HN4.out.2.1 e.symm
      · exact HN3.out.1 e
      · exact HN3.out.2 p hp e
    · unfold RS at hr
      rw [List.nil_append, List.append_nil, HPT.out, prs_pad, HH.out.2.1, ← HST.out.1] at hr
      exact hr
  intro W7 h7
  have HS7 : Hid (S8 (dgw h A)) := dgw_s8 HS8.out A
  have CS : Hid (Calls Tryd.prog 42 #[.pointer (some ⟨p3, 0, none⟩)] W7 fun e w' => e = .returned (.agg (VI .u8 (spl (dgw h A) 32))) ∧ Below W7.heap.size W7 w') := spell_any p3 0 (dgw h A) HS7.out W7 (fun i hi => by
    have hr := h7.row mem1
    have hrs : RS W7 p3 [] [] (dgw h A) 63 := by unfold RS; rw [List.nil_append, List.append_nil]; exact hr
    exact hrs.cell rfl (by rw [HS7.out.len]; exact hi))
  have H7 : Hid (Ev B w rv (l ++ [(2, (hn : Int))] ++ [(3, 31)]) ((g, hsO rv s st pq blk hn) :: bx) W7) := h7.tail.tail
  clear h7 H6
  go_upto_region 9 with (first | (go_at_call 42; refine Calls.mono CS.out ?_; rintro e W8 ⟨rfl, h8⟩; have H8 : Hid _ := H7.out.below h8; clear h8 CS) | (with_reducible refine at_list ?_; refine hold_store 53 (.tmp 5) (.tmp 44) rfl ?_))
  refine store_row_new rfl 53 (.tmp 5) (.tmp 44) rfl W8.heap.size (VI .u8 (spl (dgw h A) 32)) rfl rfl rfl 53 (VI .u8 (List.replicate 32 0)) (by rw [VI_size, spl_len]; kernel_rfl) (by rw [VI_size, VI_size, spl_len]; rfl) (VI_one _ _) ?_
  obtain ⟨p5, hp5⟩ : ∃ p5, W8.heap.size = p5 := ⟨_, rfl⟩
  have H9 : Hid (Ev B w rv (l ++ [(2, (hn : Int))] ++ [(3, 31)]) ((p5, .cells (VI .u8 (spl (dgw h A) 32)) 53) :: (g, hsO rv s st pq blk hn) :: bx) (W8.alloc (.cells (VI .u8 (spl (dgw h A) 32)) 53))) := by
    have := H8.out.new (.cells (VI .u8 (spl (dgw h A) 32)) 53)
    rw [hp5] at this
    exact this
  rw [hp5]
  obtain ⟨W9, hW9⟩ : ∃ V, W8.alloc (.cells (VI .u8 (spl (dgw h A) 32)) 53) = V := ⟨_, rfl⟩
  rw [hW9] at H9 ⊢
  clear hW9 hp5 H8 H7
  have c1 := hs_size (H9.out.row mem1)
  obtain ⟨p6, hp6⟩ : ∃ p6, W9.heap.size = p6 := ⟨_, rfl⟩
  have hmk : (Instr.makeSlice 22 (.int .i64 (s : Int)) (.int .i64 (s : Int))).run Tryd.prog W9 = .ok (.slice (some ⟨p6, 0, none⟩) s s) (W9.alloc (.cells (VI .u8 (List.replicate s 0)) 5)) := by
    have := mk_b s s rfl (by have := HL.out.2.2; omega) W9
    rw [hp6] at this
    exact this
  have H10 : Hid (Ev B w rv (l ++ [(2, (hn : Int))] ++ [(3, 31)]) ((p6, .cells (VI .u8 (List.replicate s 0)) 5) :: (p5, .cells (VI .u8 (spl (dgw h A) 32)) 53) :: (g, hsO rv s st pq blk hn) :: bx) (W9.alloc (.cells (VI .u8 (List.replicate s 0)) 5))) := by
    have := H9.out.new (.cells (VI .u8 (List.replicate s 0)) 5)
    rw [hp6] at this
    exact this
  have HN6 : Hid (p5 ≠ p6 ∧ g ≠ p6 ∧ ∀ p ∈ bx, p.1 ≠ p6) := ⟨by have := H9.out.lt mem0; omega, by have := H9.out.lt mem1; omega, fun p hp e => by have := heap_lt (H9.out.at' p (memr2 hp)); omega⟩
  obtain ⟨W10, hW10⟩ : ∃ V, W9.alloc (.cells (VI .u8 (List.replicate s 0)) 5) = V := ⟨_, rfl⟩
  rw [hW10] at H10 hmk
  clear hW10 hp6 H9
  go_upto_region 10 with fail
  clear hmk c1
  have HSP : Hid (s ≤ 32 ∧ (spl (dgw h A) s).length = s) := ⟨HL.out.2.2, spl_len _ _⟩
  have HCP : Hid (∀ ty, (Builtin.copy_ #[22, 22] ty #[.slice (some ⟨p6, 0, none⟩) s s, .slice (some ⟨p5, 0, none⟩) 32 32]).run Tryd.prog W10 = .ok (.int .i64 (s : Int)) (W10.setCells p6 0 ((spl (dgw h A) s).map (Value.int .u8)))) := fun ty => by
    have hr := range_row' (H10.out.row mem1) 0 s (by rw [spl_len]; have := HSP.out.1; omega)
    rw [List.drop_zero, spl_take _ HSP.out.1] at hr
    have := run_copyX (W := W10) (gd := p6) (od := 0) (dl := s) (dc := s) (sl := 32) (sc := 32) (X := spl (dgw h A) s) ty (by rw [HSP.out.2]; exact (Nat.min_eq_right HSP.out.1).symm) hr (there_vi (by rw [List.length_replicate, HSP.out.2]; exact Nat.le_refl _) (H10.out.row mem0))
    rw [HSP.out.2] at this
    exact this
  have H11 : Hid (Ev B w rv (l ++ [(2, (hn : Int))] ++ [(3, 31)]) ((p6, .cells (VI .u8 (spl (dgw h A) s)) 5) :: (p5, .cells (VI .u8 (spl (dgw h A) 32)) 53) :: (g, hsO rv s st pq blk hn) :: bx) (W10.setCells p6 0 ((spl (dgw h A) s).map (Value.int .u8)))) := by
    refine H10.out.set rfl (fun p hp e => ?_) (grow_setCells p6 _ _ W10) ?_
    · simp only [List.mem_cons] at hp
      rcases hp with rfl | rfl | hp
      · exact HN6.out.1 e
      · exact HN6.out.2.1 e
      · exact HN6.out.2.2 p hp e
    · have := vi_puts (spl (dgw h A) s) (o := 0) (H10.out.row mem0)
      rw [putb_zero _ _ (by rw [List.length_replicate, HSP.out.2]; exact Nat.le_refl _), HSP.out.2, List.drop_replicate, Nat.sub_self, List.replicate_zero, List.append_nil] at this
      exact this
  go_upto_region 11 with (with_reducible refine at_list ?_; first | (refine wpList_copy_run W10 rfl (.tmp 50) (.tmp 51) 22 22 rfl (.slice (some ⟨p6, 0, none⟩) s s) (.slice (some ⟨p5, 0, none⟩) 32 32) rfl rfl (HCP.out _) ?_))
  obtain ⟨W11, hW11⟩ : ∃ V, W10.setCells p6 0 ((spl (dgw h A) s).map (Value.int .u8)) = V := ⟨_, rfl⟩
  rw [hW11] at H11 ⊢
  clear hW11 HCP H10
  go_wp2
  go_ret
  refine ⟨p6, rfl, ?_, ?_⟩
  · intro p hp e
    rcases List.mem_cons.1 hp with rfl | hp
    · exact HN6.out.2.1 e
    · exact HN6.out.2.2 p hp e
  · exact H11.out.flip.tail.cast (by simp)
end Go.Proofs.YtfkbgodfcnmepaaDoor
namespace Go.Proofs.YtfkbgodfcnmepaaDoor
set_option linter.unusedSimpArgs false
set_option linter.unusedVariables false
open Go.ChangeShapes Go.WideShapes Go.ChangeAt Go.RowKit Go.Pin Go.Str Go.Dig
set_option maxRecDepth 100000 in
theorem dwrite_nil (v : Value) (w : World) : Calls Tryd.prog 23 #[.pointer none, v] w fun e w' => e = .returned (.tuple #[]) ∧ w' = w := by
  go_enter Tryd.func23, Tryd.ntmps23
  go_wp2
  first | go_end0 | refine bodyPost_ret (results_none rfl _ _ _) rfl ?_
  exact ⟨rfl, rfl⟩
set_option maxRecDepth 100000 in
theorem dsum_nil (w : World) : Calls Tryd.prog 22 #[.pointer none] w fun e w' => e = .returned (.slice none 0 0) ∧ w' = w := by
  go_enter Tryd.func22, Tryd.ntmps22
  go_wp2
  go_ret
  exact ⟨rfl, rfl⟩
/-- the zero Hash -/
def zst : List Nat := List.replicate 8 0
theorem zst_s8 : S8 zst := ⟨rfl, fun x hx => by rw [(List.mem_replicate.1 hx).2]; decide⟩
theorem zhs : HSb [] z64 := ⟨List.length_replicate, fun x hx => by rw [(List.mem_replicate.1 hx).2]; decide, rfl⟩
set_option maxRecDepth 100000 in
theorem zhash : Obj.cells Tryd.zeroCells67 67 = hst (.pointer none) 0 zst [] z64 := by kernel_rfl
end Go.Proofs.YtfkbgodfcnmepaaDoor
namespace Go.Proofs.YtfkbgodfcnmepaaDoor
set_option linter.unusedSimpArgs false
set_option linter.unusedVariables false
open Go.ChangeShapes Go.WideShapes Go.ChangeAt Go.RowKit Go.Pin Go.Str Go.Dig Go.Deep
def BytL (Ds : List (List Int)) : Prop := ∀ D ∈ Ds, Byt D
def PSrc (B : Nat) (w : World) (bx : List (Nat × Obj)) (a : Option Addr) (n : Nat) (Ds : List (List Int)) : Prop :=
  (Ds.length = n ∧ n ≤ maxLen) ∧ ∀ j, j < n → ∃ b o u, a = some ⟨b, o, none⟩ ∧ (∀ W, Below B w W → (∀ q ∈ bx, W.heap[q.1]? = some q.2) → W.cell? ⟨b, o + j, none⟩ = some u) ∧ Src B w bx u (Ds.getD j [])
theorem PSrc.sub {B : Nat} {w : World} {bx by' : List (Nat × Obj)} {a : Option Addr} {n : Nat} {Ds : List (List Int)} (h : PSrc B w bx a n Ds) (hs : ∀ p ∈ bx, p ∈ by') : PSrc B w by' a n Ds := by
  refine ⟨h.1, fun j hj => ?_⟩
  obtain ⟨b, o, u, h1, h2, h3⟩ := h.2 j hj
  exact ⟨b, o, u, h1, fun W hW hq => h2 W hW (fun q hm => hq q (hs q hm)), h3.sub hs⟩
theorem u8_of {x : Int} (h : (Lit.int .u8 x).wf = true) : 0 ≤ x ∧ x < 256 := by
  simp [Lit.wf] at h
  have h1 : IntKind.u8.min = 0 := by decide
  have h2 : IntKind.u8.max = 255 := by decide
  omega
theorem i64_of {x : Int} (h : (Lit.int .i64 x).wf = true) : -9223372036854775808 ≤ x ∧ x < 9223372036854775808 := by
  simp [Lit.wf] at h
  have h1 : IntKind.i64.min = -9223372036854775808 := by decide
  have h2 : IntKind.i64.max = 9223372036854775807 := by decide
  omega
theorem add_spot {x : Addr} {w : World} {v : Value} (h : w.cell? (x.add 0) = some v) : ∃ b o, x = ⟨b, o, none⟩ := by
  obtain ⟨b, o, s⟩ := x
  cases s with
  | none => exact ⟨b, o, rfl⟩
  | some s =>
    exfalso
    simp only [World.cell?, Addr.add, if_true] at h
    split at h <;> simp_all
/-- bytes that came in -/
theorem open_cells {H : Type} {enc : TypeId × Value → H} {W : World} {fuel : Nat} {cs : List Value} {x : DataW H × List MemPlace}
    (hf : DataW.trod enc Tryd.prog W 0 (fun _ => true) true fuel 22 cs = some x) : ∃ (v : Value) (D : List Int), cs = [v] ∧ RdB W v D ∧ Byt D ∧ D.length ≤ maxLen := by
  rcases open_ints Tryd.underlying22 Tryd.underlying5 (by kernel_rfl) hf with ⟨hcs, _⟩ | ⟨x, l, c, zs, hcs, _, hl, hm, hz, hx, hcell, hwz⟩
  · exact ⟨_, [], hcs, ⟨none, 0, rfl, Nat.le_refl _, .inl rfl⟩, (fun x hx => nomatch hx), Nat.zero_le _⟩
  · have hz' : zs.length = c := by simpa using hz
    have hl2 : (zs.take l).length = l := by rw [List.length_take]; omega
    refine ⟨_, zs.take l, hcs, ⟨some x, c, by rw [hl2], by rw [hl2]; exact hl, ?_⟩, fun y hy => u8_of (hwz y (List.mem_of_mem_take hy)), by rw [hl2]; omega⟩
    by_cases e : l = 0
    · left; subst e; simp
    · right
      obtain ⟨b, o, rfl⟩ := add_spot (hcell 0 (by omega))
      refine ⟨b, o, rfl, fun j v hv => ?_⟩
      have hj : j < l := by have := (List.getElem?_eq_some_iff.1 hv).1; rw [List.length_map, hl2] at this; exact this
      have := hcell j (by omega)
      rw [add_mid] at this
      rw [this, ← hv]
      simp [List.getElem?_take_of_lt hj, show j < zs.length by omega]
theorem open_rb {H : Type} {enc : TypeId × Value → H} {W : World} {a : Option Addr} {len cap : Nat} {d : DataW H} {p : List MemPlace}
    (h : DataW.Trod enc Tryd.prog W 0 (fun _ => true) true 22 (.slice a len cap) d p) : ∃ D : List Int, D.length = len ∧ Byt D ∧ RdB W (.slice a len cap) D := by
  obtain ⟨fuel, hf⟩ := h
  obtain ⟨v, D, hc, hr, hb, _⟩ := open_cells hf
  have e : v = .slice a len cap := by simp [Value.cells] at hc; exact hc.symm
  subst e
  obtain ⟨a', c', e2, _⟩ := id hr
  injection e2 with _ e3 _
  exact ⟨D, e3.symm, hb, hr⟩
/-- numbers that came in -/
def RdI (w : World) (a : Option Addr) (C : List Int) : Prop := C = [] ∨ ∃ b o, a = some ⟨b, o, none⟩ ∧ ∀ j, j < C.length → w.cell? ⟨b, o + j, none⟩ = some (.int .i64 (C.getD j 0))
theorem RdI.at {w : World} {a : Option Addr} {C : List Int} (h : RdI w a C) (j : Nat) (hj : j < C.length) : ∃ b o, a = some ⟨b, o, none⟩ ∧ w.cell? ⟨b, o + j, none⟩ = some (.int .i64 (C.getD j 0)) := by
  rcases h with rfl | ⟨b, o, h1, h2⟩
  · cases hj
  · exact ⟨b, o, h1, h2 j hj⟩
/-- pieces that came in -/
def PRd (w : World) (a : Option Addr) (Ds : List (List Int)) : Prop := ∀ j, j < Ds.length → ∃ b o u, a = some ⟨b, o, none⟩ ∧ w.cell? ⟨b, o + j, none⟩ = some u ∧ RdB w u (Ds.getD j [])
theorem PRd.src {w : World} {a : Option Addr} {Ds : List (List Int)} (h : PRd w a Ds) (hm : Ds.length ≤ maxLen) (bx : List (Nat × Obj)) : PSrc w.heap.size w bx a Ds.length Ds := by
  refine ⟨⟨rfl, hm⟩, fun j hj => ?_⟩
  obtain ⟨b, o, u, h1, h2, h3⟩ := h j hj
  refine ⟨b, o, u, h1, fun W hW _ => ?_, h3.src bx⟩
  rw [World.cell?_of_block (a := ⟨b, o + j, none⟩) (hW.block b (World.block_lt_of_cell? w _ h2))]
  exact h2
theorem open_pieces {H : Type} {enc : TypeId × Value → H} {W : World} {a : Option Addr} {len cap : Nat} {d : DataW H} {p : List MemPlace}
    (h : DataW.Trod enc Tryd.prog W 0 (fun _ => true) true 51 (.slice a len cap) d p) : ∃ Ds : List (List Int), Ds.length = len ∧ BytL Ds ∧ PRd W a Ds ∧ (∀ D ∈ Ds, D.length ≤ maxLen) ∧ len ≤ maxLen := by
  obtain ⟨fuel, hf⟩ := h
  rcases open_slice Tryd.underlying51 hf with ⟨hcs, _⟩ | ⟨x, len', cap', m, n, D, Pl, hcs, _, hl, hm, hmm, _, hx⟩
  · simp [Value.cells] at hcs
    obtain ⟨rfl, rfl, rfl⟩ := hcs
    exact ⟨[], rfl, (fun D hD => nomatch hD), (fun j hj => nomatch hj), (fun D hD => nomatch hD), Nat.zero_le _⟩
  · simp [Value.cells] at hcs
    obtain ⟨rfl, rfl, rfl⟩ := hcs
    have hlm : len ≤ m := by rw [hmm]; split <;> omega
    have ce : Tryd.prog.cellsOf 22 = 1 := by kernel_rfl
    have each : ∀ i, i < len → ∃ q : Value × List Int, W.cell? (x.add i) = some q.1 ∧ RdB W q.1 q.2 ∧ Byt q.2 ∧ q.2.length ≤ maxLen := by
      intro i hi
      obtain ⟨cs', h1, h2⟩ := hx i (by omega)
      rw [ce] at h1
      obtain ⟨_, hlen, hcell⟩ := World.cells?_some h1
      obtain ⟨v, D, hc, hr, hb, hm⟩ := open_cells h2
      refine ⟨(v, D), ?_, hr, hb, hm⟩
      have e := hcell 0 (by omega)
      rw [add_add, hc] at e
      simpa using e
    obtain ⟨q, hq⟩ := choose_lt each
    have hat : ∀ j, j < len → ((List.range len).map (fun i => (q i).2)).getD j [] = (q j).2 := fun j hj => by simp [List.getD, hj]
    refine ⟨(List.range len).map (fun i => (q i).2), by simp, fun D hD => ?_, fun j hj => ?_, fun D hD => ?_, by omega⟩
    · simp only [List.mem_map, List.mem_range] at hD
      obtain ⟨i, hi, rfl⟩ := hD
      exact (hq i hi).2.2.1
    · have hj' : j < len := by simpa using hj
      obtain ⟨b, o, rfl⟩ := add_spot (w := W) (x := x) (v := (q 0).1) (by exact (hq 0 (by omega)).1)
      have := (hq j hj').1
      rw [add_mid] at this
      refine ⟨b, o, (q j).1, rfl, this, ?_⟩
      rw [hat j hj']
      exact (hq j hj').2.1
    · simp only [List.mem_map, List.mem_range] at hD
      obtain ⟨i, hi, rfl⟩ := hD
      exact (hq i hi).2.2.2
end Go.Proofs.YtfkbgodfcnmepaaDoor
namespace Go.Dig
/-- how many of a bytes are held -/
def hl (a : Nat) : Nat := a - 64 * nbl a
theorem hld_hl (A : List Int) : (hld A).length = hl A.length := hld_len A
theorem hl_le (a : Nat) : hl a ≤ 64 := by unfold hl nbl; omega
end Go.Dig
namespace Go.Proofs.YtfkbgodfcnmepaaDoor
set_option linter.unusedSimpArgs false
set_option linter.unusedVariables false
open Go.ChangeShapes Go.WideShapes Go.ChangeAt Go.RowKit Go.Pin Go.Str Go.Dig
/-- what the pieces' Writes log -/
def plog : Nat → Nat → List Nat → List (Int × Int)
  | _, _, [] => []
  | a, i, n :: r => (1, 1) :: (2, (i : Int)) :: (wl (hl a) n ++ plog (a + n) (i + 1) r)
theorem plog_snoc : ∀ (ns : List Nat) (a i n : Nat), plog a i (ns ++ [n]) = plog a i ns ++ ((1, 1) :: (2, ((i + ns.length : Nat) : Int)) :: wl (hl (a + ns.sum)) n)
  | [], a, i, n => by simp [plog]
  | m :: r, a, i, n => by
    have := plog_snoc r (a + m) (i + 1) n
    rw [List.cons_append, plog, this, plog]
    have e1 : i + 1 + r.length = i + (m :: r).length := by simp; omega
    have e2 : a + m + r.sum = a + (m :: r).sum := by simp; omega
    rw [e1, e2]
    simp
theorem plog_len : ∀ (l : List Nat) (a i : Nat), (plog a i l).length ≤ 13 * l.length + l.sum
  | [], a, i => by simp [plog]
  | n :: r, a, i => by
    have h1 := wl_short (hl a) n (hl_le a)
    have h2 := plog_len r (a + n) (i + 1)
    simp [plog]
    omega
/-- what Of logs -/
def olg (ns : List Nat) : List (Int × Int) := nlg [] ++ plog 0 0 ns ++ [(1, 0), (2, ((hl ns.sum : Nat) : Int)), (3, 31)]
theorem flat_len (Ds : List (List Int)) : Ds.flatten.length = (Ds.map List.length).sum := by rw [List.length_flatten]
theorem take_snocL (Ds : List (List Int)) (i : Nat) (h : i < Ds.length) : Ds.take (i + 1) = Ds.take i ++ [Ds.getD i []] := by
  rw [List.take_add_one, List.getD_eq_getElem?_getD, List.getElem?_eq_getElem h]
  rfl
theorem BytL.at {Ds : List (List Int)} (h : BytL Ds) (i : Nat) : Byt (Ds.getD i []) := by
  rw [List.getD_eq_getElem?_getD]
  cases he : Ds[i]? with
  | none => intro x hx; cases hx
  | some D => exact h D (List.mem_of_getElem? he)
theorem BytL.flat {Ds : List (List Int)} (h : BytL Ds) : Byt Ds.flatten := fun x hx => by
  obtain ⟨D, hD, hx⟩ := List.mem_flatten.1 hx
  exact h D hD x hx
theorem BytL.take {Ds : List (List Int)} (h : BytL Ds) (i : Nat) : BytL (Ds.take i) := fun D hD => h D (List.mem_of_mem_take hD)
theorem take_sum : ∀ (Ds : List (List Int)) (i : Nat), (Ds.take i).flatten.length + (Ds.getD i []).length ≤ Ds.flatten.length
  | [], i => by simp
  | D :: r, 0 => by simp
  | D :: r, i + 1 => by
    have := take_sum r i
    simp at this ⊢
    omega
theorem wrapS {i n : Nat} (h : i < n) (hn : n ≤ maxLen) : wrap64 ((i : Int) + 1) = (i : Int) + 1 := IntWalk.wrap64_in _ ⟨by omega, by unfold maxLen at hn; omega⟩
theorem measS {i n : Nat} (h : i < n) (hn : n ≤ maxLen) : n - (intOf (.int .i64 (wrap64 ((i : Int) + 1)))).toNat < n - (intOf (.int .i64 (i : Int))).toNat := by
  rw [wrapS h hn]
  simp only [intOf]
  omega
theorem infoK : (Tryd.prog.info? 54).map (·.size) = some 32 := by kernel_rfl

theorem store_rowI {P : Program} {ops : Array Oper} {rest : List Oper} {op : Oper} {a : Act} {w : World} {Q : Exit → Act → World → Prop} (hgd : op.guard = none) (ty : TypeId) (x y : Operand) (ho : op.op = .store ty x y)
    (g : Nat) (k : IntKind) (L : List Int) (hx : a.eval x = .pointer (some ⟨g, 0, none⟩)) (hy : a.eval y = .agg (VI k L)) (ht : w.there g 0 L.length) (hi : (P.info? ty).map (·.size) = some L.length) (hd : op.dst = none)
    (h : wpList P ops Q rest a (w.setCells g 0 (VI k L).toList)) : wpList P ops Q (op :: rest) a w :=
  wpList_store_mid hgd ty x y ho g 0 (VI k L) hx hy (by rw [VI_size]; exact ht) (by rw [VI_size]; exact hi) (VI_one _ _) (by rw [hd]; exact h)
theorem row_there {W : World} {g : Nat} {k : IntKind} {L : List Int} {T : TypeId} (h : W.heap[g]? = some (.cells (VI k L) T)) : W.there g 0 L.length := fun j hj => by
  refine ⟨?_, frozen_of_row W _ _ _ _ h⟩
  rw [Nat.zero_add, cell_of_row W _ _ _ _ _ h, VI_at _ _ _ hj]
  rfl
theorem Ev.storeRow {B : Nat} {w : World} {rv : Value} {l : List (Int × Int)} {bx : List (Nat × Obj)} {W : World} {g : Nat} {k : IntKind} {L L' : List Int} {T : TypeId} (h : Ev B w rv l ((g, .cells (VI k L) T) :: bx) W) (hne : ∀ p ∈ bx, p.1 ≠ g) (hl : L'.length = L.length) : Ev B w rv l ((g, .cells (VI k L') T) :: bx) (W.setCells g 0 (VI k L').toList) := by
  refine h.set rfl hne (grow_setCells g _ 0 W) ?_
  have h0 : W.heap[g]? = some (.cells ([] ++ (L.map (Value.int k) ++ [])).toArray T) := by simpa [VI] using h.row (List.mem_cons_self ..)
  have := heap_setCells_row g (L'.map (Value.int k)) _ _ _ W (by simpa using hl) h0
  simpa [VI] using this
theorem row_rangeD {W : World} {g : Nat} {L : List Int} {T : TypeId} {fr : Nat × Nat} (h : W.heap[g]? = some (.cells (VI .u8 L) T fr)) : W.rangeAt g 0 (L.map (Value.int .u8)) := by
  have := range_row' h 0 L.length (by omega)
  rw [List.drop_zero, List.take_length] at this
  exact this
theorem dwrite_src {B : Nat} {w : World} {rv : Value} {l : List (Int × Int)} {bx : List (Nat × Obj)} {W : World} {g s : Nat} {h : List Nat} {A D blk : List Int} {v : Value} (hS : HSb A blk) (hE : Ev B w rv l ((g, hst rv s h A blk) :: bx) W) (hh : S8 h) (hl : rv ≠ .pointer none → l.length + D.length ≤ 800000) (hne : ∀ p ∈ bx, p.1 ≠ g) (hsrc : Src B w bx v D) (hDb : Byb D) (hlen : A.length + D.length < 4611686018427387904) (hB : Beg w) (h2 : 2 ≤ B) :
    Calls Tryd.prog 23 #[.pointer (some ⟨g, 0, none⟩), v] W fun e w' => e = .returned (.tuple #[]) ∧ WrOk B w rv l (wl (hld A).length D.length) bx g s h (A ++ D) w' := by
  obtain ⟨a, cap, rfl, _⟩ := id hsrc
  exact dwrite_any hS hE hh hl hne hsrc hDb hlen hB h2
set_option maxRecDepth 100000 in
set_option maxHeartbeats 4000000 in
theorem dof_any {B : Nat} {w : World} {ra : Option Addr} {l : List (Int × Int)} {bx : List (Nat × Obj)} {W : World} (h : Ev B w (.pointer ra) l bx W) {a : Option Addr} {n cap : Nat} {Ds : List (List Int)} (hP : PSrc B w bx a n Ds) (hD : BytL Ds) (hl : Value.pointer ra ≠ .pointer none → l.length + 25 * n + Ds.flatten.length ≤ 600000) (hlen : Ds.flatten.length < 4611686018427387904) (hB : Beg w) (h2 : 2 ≤ B) :
    Calls Tryd.prog 26 #[(.pointer ra), .slice a n cap] W fun e w' => e = .returned (.agg (VI .u8 (dig 32 [] Ds.flatten))) ∧ Ev B w (.pointer ra) (l ++ olg (Ds.map List.length)) bx w' := by
  obtain ⟨q, hq⟩ : ∃ q, W.heap.size = q := ⟨_, rfl⟩
  have e3 := h.new (.cells (VI .u8 (List.replicate 32 0)) 54)
  rw [hq] at e3
  have hbxq : ∀ p ∈ bx, p.1 < q := fun p hp => by rw [← hq]; exact heap_lt (h.at' p hp)
  have CN : Hid (Calls Tryd.prog 11 #[(.pointer ra), .int .i64 32, .slice none 0 0] (W.alloc (.cells (VI .u8 (List.replicate 32 0)) 54)) fun e w' => ∃ g, e = .returned (.tuple #[.pointer (some ⟨g, 0, none⟩), .nilIface]) ∧ NewOk B w (.pointer ra) l ((q, .cells (VI .u8 (List.replicate 32 0)) 54) :: bx) 32 [] g w') := dnew_any e3 (fun hr => by have := hl hr; omega) 32 ⟨by decide, by decide⟩ hB h2 (.slice none 0 0) [] ⟨none, 0, rfl, Nat.le_refl _, .inl rfl⟩ (by decide) (by intro x hx; cases hx)
  have HL : Hid ((Value.pointer ra ≠ .pointer none → l.length + 25 * n + Ds.flatten.length ≤ 600000) ∧ BytL Ds ∧ (∀ p ∈ bx, p.1 < q) ∧ PSrc B w bx a n Ds ∧ Ds.flatten.length < 4611686018427387904 ∧ Beg w ∧ 2 ≤ B) := ⟨hl, hD, hbxq, hP, hlen, hB, h2⟩
  obtain ⟨W0, hW0⟩ : ∃ V, W.alloc (.cells (VI .u8 (List.replicate 32 0)) 54) = V := ⟨_, rfl⟩
  rw [hW0] at CN
  clear e3 h hP hD hl hbxq hlen hB h2
  go_enter Tryd.func26, Tryd.ntmps26
  go_upto_region 1 with fail
  have hW0' : W.alloc (.cells #[Value.int IntKind.u8 0, Value.int IntKind.u8 0, Value.int IntKind.u8 0, Value.int IntKind.u8 0, Value.int IntKind.u8 0, Value.int IntKind.u8 0, Value.int IntKind.u8 0, Value.int IntKind.u8 0, Value.int IntKind.u8 0, Value.int IntKind.u8 0, Value.int IntKind.u8 0, Value.int IntKind.u8 0, Value.int IntKind.u8 0, Value.int IntKind.u8 0, Value.int IntKind.u8 0, Value.int IntKind.u8 0, Value.int IntKind.u8 0, Value.int IntKind.u8 0, Value.int IntKind.u8 0, Value.int IntKind.u8 0, Value.int IntKind.u8 0, Value.int IntKind.u8 0, Value.int IntKind.u8 0, Value.int IntKind.u8 0, Value.int IntKind.u8 0, Value.int IntKind.u8 0, Value.int IntKind.u8 0, Value.int IntKind.u8 0, Value.int IntKind.u8 0, Value.int IntKind.u8 0, Value.int IntKind.u8 0, Value.int IntKind.u8 0] 54) = W0 := hW0
  rw [hW0']
  clear hW0 hW0' hq
  go_wp2_with (go_at_call 11; refine Calls.mono CN.out ?_; rintro e W1 ⟨g, rfl, h1⟩; have H1 : Hid _ := h1; clear h1 CN)
  obtain ⟨o, hng, hho, he1⟩ := H1.out
  obtain ⟨blk0, hb0, rfl⟩ := hho.blk
  have HG : Hid (∀ p ∈ (q, .cells (VI .u8 (List.replicate 32 0)) 54) :: bx, p.1 ≠ g) := hng
  have HE1 : Hid (HSb [] blk0 ∧ Ev B w (.pointer ra) (l ++ nlg []) ((g, hst (.pointer ra) 32 (h0 32 0) [] blk0) :: (q, .cells (VI .u8 (List.replicate 32 0)) 54) :: bx) W1) := ⟨hb0, he1⟩
  clear hng hho he1 hb0 H1
  go_loopw [7] (fun v w' => ∃ (i : Nat) (blk : List Int), i ≤ n ∧ v = .int .i64 (i : Int) ∧ HSb (Ds.take i).flatten blk ∧ Ev B w (.pointer ra) (l ++ nlg [] ++ plog 0 0 ((Ds.take i).map List.length)) ((g, (hst (.pointer ra) 32 (h0 32 0) (Ds.take i).flatten blk)) :: (q, .cells (VI .u8 (List.replicate 32 0)) 54) :: bx) w') (fun v _ => n - (intOf v).toNat)
  case atStart => exact ⟨0, blk0, Nat.zero_le _, rfl, HE1.out.1, HE1.out.2.cast (by simp [plog])⟩
  case round =>
    clear HE1
    obtain ⟨i, blk, hi, rfl, hsb, he⟩ := hrel
    have HSB : Hid (HSb (Ds.take i).flatten blk) := hsb
    have hpl : (plog 0 0 ((Ds.take i).map List.length)).length ≤ 13 * n + (Ds.take i).flatten.length := by
      have h1 := plog_len ((Ds.take i).map List.length) 0 0
      rw [← flat_len] at h1
      have h2 : ((Ds.take i).map List.length).length ≤ n := by rw [List.length_map, List.length_take]; omega
      omega
    have htl := take_sum Ds i
    have HLN : Hid ((Value.pointer ra ≠ .pointer none → (l ++ nlg [] ++ plog 0 0 ((Ds.take i).map List.length)).length + 30 + (Ds.getD i []).length ≤ 700000) ∧ (Ds.take i).flatten.length + (Ds.getD i []).length < 4611686018427387904) := by
      have : (Value.pointer ra ≠ .pointer none → (l ++ nlg [] ++ plog 0 0 ((Ds.take i).map List.length)).length + 30 + (Ds.getD i []).length ≤ 700000) ∧ (Ds.take i).flatten.length + (Ds.getD i []).length < 4611686018427387904 := ⟨fun hr => by
        have := HL.out.1 hr
        rw [List.length_append, List.length_append]
        simp only [nlg, List.length_cons, List.length_nil]
        omega, by have := HL.out.2.2.2.2.1; omega⟩
      exact this
    by_cases hlt : i < n
    · have b1 : decide ((i : Int) < (n : Int)) = true := decide_eq_true (by omega)
      have b2 : decide (i < n) = true := decide_eq_true hlt
      have b3 : (i : Int) < (n : Int) := by omega
      have CI : Hid (Calls Tryd.prog 31 #[(.pointer ra), .bool true] wr fun e w' => e = .returned (.bool true) ∧ Ev B w (.pointer ra) (l ++ nlg [] ++ plog 0 0 ((Ds.take i).map List.length) ++ [(1, 1)]) ((g, (hst (.pointer ra) 32 (h0 32 0) (Ds.take i).flatten blk)) :: (q, .cells (VI .u8 (List.replicate 32 0)) 54) :: bx) w') := v_if he (fun hr => by have := HLN.out.1 hr; omega) true
      obtain ⟨b, oo, u, rfl, hcu, hsu⟩ := HL.out.2.2.2.1.2 i hlt
      have HU : Hid ((∀ W, Below B w W → (∀ q ∈ bx, W.heap[q.1]? = some q.2) → W.cell? ⟨b, oo + i, none⟩ = some u) ∧ Src B w bx u (Ds.getD i [])) := ⟨hcu, hsu⟩
      have HN : Hid (i < n) := hlt
      have HW1 : Hid (wrap64 ((i : Int) + 1) = (i : Int) + 1) := wrapS hlt HL.out.2.2.2.1.1.2
      clear he hcu hsu hpl htl hi hsb
      go_wp2_with (first | (go_at_call 31; refine Calls.mono CI.out ?_; rintro e W2 ⟨rfl, h2⟩; have CA : Hid (Calls Tryd.prog 39 #[(.pointer ra), .int .i64 (i : Int)] W2 fun e w' => e = .returned (.int .i64 (i : Int)) ∧ Ev B w (.pointer ra) (l ++ nlg [] ++ plog 0 0 ((Ds.take i).map List.length) ++ [(1, 1)] ++ [(2, (i : Int))]) ((g, (hst (.pointer ra) 32 (h0 32 0) (Ds.take i).flatten blk)) :: (q, .cells (VI .u8 (List.replicate 32 0)) 54) :: bx) w') := v_at h2 (fun hr => by have := HLN.out.1 hr; simp at this ⊢; omega) (i : Int); clear h2 CI) | (go_at_call 39; refine Calls.mono CA.out ?_; rintro e W3 ⟨rfl, h3⟩; have c3 := HU.out.1 W3 h3.old (fun q hq => h3.row (memr2 hq)); have CW : Hid (Calls Tryd.prog 23 #[.pointer (some ⟨g, 0, none⟩), u] W3 fun e w' => e = .returned (.tuple #[]) ∧ WrOk B w (.pointer ra) (l ++ nlg [] ++ plog 0 0 ((Ds.take i).map List.length) ++ [(1, 1)] ++ [(2, (i : Int))]) (wl (hld (Ds.take i).flatten).length (Ds.getD i []).length) ((q, .cells (VI .u8 (List.replicate 32 0)) 54) :: bx) g 32 (h0 32 0) ((Ds.take i).flatten ++ Ds.getD i []) w') := dwrite_src HSB.out h3 (h0_s8 (by decide) (by decide)) (fun hr => by have := HLN.out.1 hr; simp at this ⊢; omega) HG.out (HU.out.2.sub (fun p hp => memr1 hp)) (HL.out.2.1.at i) HLN.out.2 HL.out.2.2.2.2.2.1 HL.out.2.2.2.2.2.2; clear h3 CA) | (go_at_call 23; refine Calls.mono CW.out ?_; rintro e W4 ⟨rfl, h4⟩; have H4 : Hid _ := h4; clear h4 CW))
      go_roundw
      case rel =>
        obtain ⟨blk4, hb4, h4⟩ := H4.out
        have hsn := take_snocL Ds i (by rw [HL.out.2.2.2.1.1.1]; exact HN.out)
        have hfl : (Ds.take (i + 1)).flatten = (Ds.take i).flatten ++ Ds.getD i [] := by rw [hsn, List.flatten_append]; simp
        refine ⟨i + 1, blk4, HN.out, by rw [HW1.out]; exact congrArg (Value.int .i64) (by omega), by rw [hfl]; exact hb4, ?_⟩
        rw [hfl]
        refine h4.cast ?_
        rw [hsn, List.map_append, List.map_cons, List.map_nil, plog_snoc]
        have e1 : ((Ds.take i).map List.length).length = i := by rw [List.length_map, List.length_take, HL.out.2.2.2.1.1.1]; have := HN.out; omega
        have e2 : ((Ds.take i).map List.length).sum = (Ds.take i).flatten.length := (flat_len _).symm
        rw [e1, e2, hld_hl]
        simp only [List.append_assoc, Nat.zero_add, List.cons_append, List.nil_append]
      case measure => exact measS HN.out HL.out.2.2.2.1.1.2
    · have b1 : decide ((i : Int) < (n : Int)) = false := decide_eq_false (by omega)
      have b2 : decide (i < n) = false := decide_eq_false hlt
      have b3 : ¬ (i : Int) < (n : Int) := by omega
      have et : Ds.take i = Ds := List.take_of_length_le (by rw [HL.out.2.2.2.1.1.1]; omega)
      have CI : Hid (Calls Tryd.prog 31 #[(.pointer ra), .bool false] wr fun e w' => e = .returned (.bool false) ∧ Ev B w (.pointer ra) (l ++ nlg [] ++ plog 0 0 ((Ds.take i).map List.length) ++ [(1, 0)]) ((g, (hst (.pointer ra) 32 (h0 32 0) (Ds.take i).flatten blk)) :: (q, .cells (VI .u8 (List.replicate 32 0)) 54) :: bx) w') := v_if he (fun hr => by have := HLN.out.1 hr; omega) false
      rw [et] at CI HLN HSB
      have HR : Hid ((dig 32 [] Ds.flatten) = spl (dgw (h0 32 0) Ds.flatten) 32 ∧ (dig 32 [] Ds.flatten).length = 32) := ⟨rfl, dig_len _ _ _⟩
      clear he hpl htl hi hsb et
      have hap := fun g2 w => run_arrayAt (P := Tryd.prog) (w := w) 54 5 32 (some ⟨g2, 0, none⟩) 32 32 Tryd.underlying54 (Nat.le_refl _)
      go_wp2_with (first | (go_at_call 31; refine Calls.mono CI.out ?_; rintro e W2 ⟨rfl, h2⟩; have CT : Hid (Calls Tryd.prog 22 #[.pointer (some ⟨g, 0, none⟩)] W2 fun e w' => ∃ g2, e = .returned (.slice (some ⟨g2, 0, none⟩) 32 32) ∧ SuOk B w (.pointer ra) (l ++ nlg [] ++ plog 0 0 (Ds.map List.length) ++ [(1, 0)] ++ [(2, ((hld Ds.flatten).length : Int)), (3, 31)]) ((g, (hst (.pointer ra) 32 (h0 32 0) Ds.flatten blk)) :: (q, .cells (VI .u8 (List.replicate 32 0)) 54) :: bx) (dig 32 [] Ds.flatten) g2 w') := dsum_any HSB.out h2 (h0_s8 (by decide) (by decide)) (Nat.le_refl _) (fun hr => by have := HLN.out.1 hr; simp at this ⊢; omega) HG.out HL.out.2.2.2.2.1 HL.out.2.2.2.2.2.1 HL.out.2.2.2.2.2.2; clear h2 CI) | (go_at_call 22; refine Calls.mono CT.out ?_; rintro e W3 ⟨g2, rfl, h3⟩; have H3 : Hid _ := h3; have HLD : Hid (W3.rangeAt g2 0 ((dig 32 [] Ds.flatten).map (Value.int .u8))) := row_rangeD (h3.2.row mem0); clear h3 CT) | (with_reducible refine at_list ?_; first | (refine load_midI rfl 54 (.tmp 31) rfl g2 0 rfl .u8 (dig 32 [] Ds.flatten) _ HLD.out Tryd.underlying54 rfl (by rw [HR.out.2]; exact infoK) ?_) | (refine hold_store 54 (.tmp 4) (.tmp 32) rfl ?_)))
      have h3 : Ev B w (.pointer ra) (l ++ nlg [] ++ plog 0 0 (Ds.map List.length) ++ [(1, 0)] ++ [(2, ((hld Ds.flatten).length : Int)), (3, 31)]) ((q, .cells (VI .u8 (List.replicate 32 0)) 54) :: bx) W3 := H3.out.2.tail.tail
      have ht3 := row_there (h3.row mem0)
      refine store_rowI rfl 54 (.tmp 4) (.tmp 32) rfl q .u8 (dig 32 [] Ds.flatten) rfl rfl (by rw [HR.out.2]; exact ht3) (by rw [HR.out.2]; exact infoK) rfl ?_
      have h4 := h3.storeRow (L' := (dig 32 [] Ds.flatten)) (fun p hp => by have := HL.out.2.2.1 p hp; omega) (by rw [HR.out.2, List.length_replicate])
      obtain ⟨W5, hW5⟩ : ∃ V, W3.setCells q 0 (VI .u8 (dig 32 [] Ds.flatten)).toList = V := ⟨_, rfl⟩
      rw [hW5] at h4 ⊢
      have H5 : Hid (Ev B w (.pointer ra) _ bx W5) := h4.tail
      have HR5 : Hid (W5.heap[q]? = some (.cells (VI .u8 (dig 32 [] Ds.flatten)) 54)) := h4.row mem0
      have HI5 : Hid ((Tryd.prog.info? 54).map (·.size) = some (VI .u8 (dig 32 [] Ds.flatten)).size) := by
        have : (Tryd.prog.info? 54).map (·.size) = some (VI .u8 (dig 32 [] Ds.flatten)).size := by rw [VI_size, HR.out.2]; exact infoK
        exact this
      clear h4 h3 ht3 hW5
      go_wp2
      refine bodyPost_ret (v := .agg (VI .u8 (dig 32 [] Ds.flatten))) ?_ rfl ⟨rfl, H5.out.cast (by unfold olg; rw [hld_hl, flat_len]; simp)⟩
      exact results_cell_row (P := Tryd.prog) (fn := Tryd.f26) (p := 4) (ty := 54) rfl _ _ q 54 (VI .u8 (dig 32 [] Ds.flatten)) (0, 0) _ rfl HR5.out Tryd.underlying54 rfl HI5.out
end Go.Proofs.YtfkbgodfcnmepaaDoor
