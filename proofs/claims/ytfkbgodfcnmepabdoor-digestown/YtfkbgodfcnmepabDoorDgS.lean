import Derived.Test.YtfkbgodfcnmepabDoorDgW
import Derived.Laws.MakeOwn
namespace Go.Proofs.YtfkbgodfcnmepabDoor
set_option linter.unusedSimpArgs false
set_option linter.unusedVariables false
open Go.ChangeShapes Go.WideShapes Go.ChangeAt Go.RowKit Go.Pin Go.Str Go.Dig
theorem getD_pad (b : List Int) (m i : Nat) : (b ++ List.replicate m (0 : Int)).getD i 0 = b.getD i 0 := by
  simp only [List.getD]
  by_cases hi : i < b.length
  · rw [List.getElem?_append_left hi]
  · rw [List.getElem?_append_right (by omega), List.getElem?_eq_none (show b.length ≤ i by omega)]
    by_cases hm : i - b.length < m
    · simp [List.getElem?_replicate, hm]
    · rw [List.getElem?_eq_none (by simp; omega)]
theorem wds_pad (b : List Int) (m : Nat) : wds (b ++ List.replicate m (0 : Int)) = wds b := by
  unfold wds
  refine List.map_congr_left fun i _ => ?_
  unfold wdi
  simp only [getD_pad]
theorem prs_pad (h : List Nat) (b : List Int) (m c k : Nat) : prs h (b ++ List.replicate m (0 : Int)) c k = prs h b c k := by
  unfold prs
  rw [wds_pad]
theorem hs_word {w : World} {g : Nat} {rv : Value} {size : Nat} {st : List Nat} {pr : Nat} {blk : List Int} {held : Nat} (hg : w.heap[g]? = some (hsO rv size st pr blk held)) (i : Nat) (hi : i < st.length) : w.cell? ⟨g, 2 + i, none⟩ = some (.int .u32 ((st.getD i 0 : Nat) : Int)) := (hs_rs hg).cell rfl hi
theorem eight {l : List Nat} (h : l.length = 8) : ∃ x0 x1 x2 x3 x4 x5 x6 x7, l = [x0, x1, x2, x3, x4, x5, x6, x7] := by
  match l, h with
  | [x0, x1, x2, x3, x4, x5, x6, x7], _ => exact ⟨x0, x1, x2, x3, x4, x5, x6, x7, rfl⟩
theorem vi_puts {g : Nat} {T : TypeId} : ∀ (vs : List Int) {w : World} {L : List Int} {o : Nat}, w.heap[g]? = some (.cells (VI .u8 L) T) → (w.setCells g o (vs.map (Value.int .u8))).heap[g]? = some (.cells (VI .u8 (putb L o vs)) T)
  | [], _, _, _, h => h
  | v :: r, w, L, o, h => by
    have h1 : (w.setCell ⟨g, o, none⟩ (.int .u8 v)).heap[g]? = some (.cells (VI .u8 (L.set o v)) T) := by
      rw [heap_setCell_same w _ _ _ _ _ h]
      simp [VI, List.map_set]
    exact vi_puts r (L := L.set o v) (o := o + 1) h1
theorem held_range {w : World} {g : Nat} {rv : Value} {size : Nat} {st : List Nat} {pr : Nat} {A blk : List Int} {held : Nat} (hs : st.length = 8) (hS : HSb A blk) (hg : w.heap[g]? = some (hsO rv size st pr blk held)) : w.rangeAt g 11 ((hld A).map (Value.int .u8)) := fun j v hv => by
  have hj : j < (hld A).length := by have := (List.getElem?_eq_some_iff.1 hv).1; simpa using this
  have h64 := hld_le A
  rw [hs_blk hs hS.1 hg (show j < 64 by omega), ← hv, List.getElem?_map]
  have e : (hld A)[j]? = blk[j]? := by rw [← hS.2.2, List.getElem?_take, if_pos hj]
  rw [e, List.getElem?_eq_getElem (show j < blk.length by rw [hS.1]; omega)]
  simp [List.getD, List.getElem?_eq_getElem (show j < blk.length by rw [hS.1]; omega)]
theorem there_vi {w : World} {g : Nat} {T : TypeId} {L : List Int} {n : Nat} (hn : n ≤ L.length) (h : w.heap[g]? = some (.cells (VI .u8 L) T)) : w.there g 0 n := fun j hj => by
  refine ⟨?_, frozen_of_row w _ _ _ _ h⟩
  rw [cell_of_row w _ _ _ _ _ h, VI_at _ _ _ (by omega)]
  rfl
theorem parts_u8 : (Tryd.prog.info? 5).map (fun i => (i.zero, i.size, i.bytes)) = some (some (.int .u8 0), 1, 1) := by kernel_rfl
set_option maxRecDepth 10000 in
theorem mk_b (n : Nat) (x : Int) (hx : x = (n : Int)) (hn : n ≤ 1000000) (w : World) : (Instr.makeSlice 22 (.int .i64 x) (.int .i64 x)).run Tryd.prog w = .ok (.slice (some ⟨w.heap.size, 0, none⟩) n n) (w.alloc (.cells (VI .u8 (List.replicate n 0)) 5)) := by
  subst hx
  obtain ⟨i0, hi, hz⟩ := Option.map_eq_some_iff.1 parts_u8
  simp only [Prod.mk.injEq] at hz
  obtain ⟨hz0, hz1, hz2⟩ := hz
  have := run_makeSlice (P := Tryd.prog) w 22 5 i0 (.int .u8 0) Tryd.underlying22 hi hz0 .i64 .i64 (n : Int) (n : Int) (by omega) (Int.le_refl _) (by rw [hz1]; omega) (by rw [hz2]; omega) (by omega)
  rw [this, hz1, Int.toNat_natCast]
  congr 3
  apply Array.ext'
  simp [madeCells, Value.cells, VI]
  refine List.eq_replicate_iff.2 ⟨by simp, ?_⟩
  simp
  intro a _
  rw [Nat.mod_one]
  rfl
/-- what Sum leaves -/
def SuOk (B : Nat) (w : World) (rv : Value) (L : List (Int × Int)) (bx : List (Nat × Obj)) (R : List Int) (g2 : Nat) (w' : World) : Prop :=
  (∀ p ∈ bx, p.1 ≠ g2) ∧ Ev B w rv L ((g2, .cells (VI .u8 R) 5) :: bx) w'
set_option maxRecDepth 100000 in
set_option maxHeartbeats 8000000 in
theorem dsum_any {B : Nat} {w : World} {rv : Value} {l : List (Int × Int)} {bx : List (Nat × Obj)} {W : World} {g s : Nat} {h : List Nat} {A blk : List Int} (hS : HSb A blk) (hE : Ev B w rv l ((g, (hst rv s h A blk)) :: bx) W) (hh : S8 h) (hs : s ≤ 32) (hl : rv ≠ .pointer none → l.length ≤ 900000) (hne : ∀ p ∈ bx, p.1 ≠ g) (hlen : A.length < 4611686018427387904) (hB : Beg w) (h2 : 2 ≤ B) :
    Calls Tryd.prog 9 #[.pointer (some ⟨g, 0, none⟩)] W fun e w' => ∃ g2, e = .returned (.slice (some ⟨g2, 0, none⟩) s s) ∧ SuOk B w rv (l ++ [(2, ((hld A).length : Int)), (3, 31)]) ((g, (hst rv s h A blk)) :: bx) (spl (dgw h A) s) g2 w' := by
  have HS8 : Hid (S8 h) := hh
  have HNE : Hid (∀ p ∈ bx, p.1 ≠ g) := hne
  have HB : Hid (Beg w ∧ 2 ≤ B) := ⟨hB, h2⟩
  have HL : Hid ((rv ≠ .pointer none → l.length ≤ 900000) ∧ A.length < 4611686018427387904 ∧ s ≤ 32) := ⟨hl, hlen, hs⟩
  have HSB : Hid (HSb A blk) := hS
  have HQ8 : Hid ((prn h A (nbl A.length)).length = 8) := (prn_s8 HS8.out A _).len
  obtain ⟨st, hst0⟩ : ∃ st, prn h A (nbl A.length) = st := ⟨_, rfl⟩
  obtain ⟨hn, hhn⟩ : ∃ hn, (hld A).length = hn := ⟨_, rfl⟩
  obtain ⟨pq, hpq⟩ : ∃ pq, 64 * nbl A.length = pq := ⟨_, rfl⟩
  have HST : Hid (prn h A (nbl A.length) = st ∧ (hld A).length = hn ∧ 64 * nbl A.length = pq ∧ S8 st) := ⟨hst0, hhn, hpq, hst0 ▸ prn_s8 HS8.out A _⟩
  have EH : (hst rv s h A blk) = hsO rv s st pq blk hn := by unfold hst; rw [hst0, hhn, hpq]
  rw [EH] at hE ⊢
  rw [hhn]
  have HE : Hid (Ev B w rv l ((g, hsO rv s st pq blk hn) :: bx) W) := hE
  have HX : Hid (W.heap[g]? = some (hsO rv s st pq blk hn)) := hE.row mem0
  clear hS hE hh hl hne hlen hB h2 hs EH hst0 hhn hpq
  obtain ⟨x0, x1, x2, x3, x4, x5, x6, x7, hxs⟩ := eight HST.out.2.2.2.len
  have HXS : Hid (st = [x0, x1, x2, x3, x4, x5, x6, x7]) := hxs
  rw [hxs] at HX
  have k0 : W.cell? ⟨g, 2, none⟩ = some (.int .u32 ((x0 : Nat) : Int)) := hs_word HX.out 0 (by simp)
  have k1 : W.cell? ⟨g, 3, none⟩ = some (.int .u32 ((x1 : Nat) : Int)) := hs_word HX.out 1 (by simp)
  have k2 : W.cell? ⟨g, 4, none⟩ = some (.int .u32 ((x2 : Nat) : Int)) := hs_word HX.out 2 (by simp)
  have k3 : W.cell? ⟨g, 5, none⟩ = some (.int .u32 ((x3 : Nat) : Int)) := hs_word HX.out 3 (by simp)
  have k4 : W.cell? ⟨g, 6, none⟩ = some (.int .u32 ((x4 : Nat) : Int)) := hs_word HX.out 4 (by simp)
  have k5 : W.cell? ⟨g, 7, none⟩ = some (.int .u32 ((x5 : Nat) : Int)) := hs_word HX.out 5 (by simp)
  have k6 : W.cell? ⟨g, 8, none⟩ = some (.int .u32 ((x6 : Nat) : Int)) := hs_word HX.out 6 (by simp)
  have k7 : W.cell? ⟨g, 9, none⟩ = some (.int .u32 ((x7 : Nat) : Int)) := hs_word HX.out 7 (by simp)
  clear HX hxs
  go_enter Tryd.func9, Tryd.ntmps9
  go_upto_region 4 with fail
  obtain ⟨p3, hp3⟩ : ∃ p3, W.heap.size = p3 := ⟨_, rfl⟩
  have H3 : Hid (Ev B w rv l ((p3, .cells (cellsW st).toArray 47) :: (g, hsO rv s st pq blk hn) :: bx) (W.alloc (.cells (cellsW [x0, x1, x2, x3, x4, x5, x6, x7]).toArray 47))) := by
    have := HE.out.new (.cells (cellsW st).toArray 47)
    rw [hp3] at this
    rw [← HXS.out]
    exact this
  have HN3 : Hid (g ≠ p3 ∧ ∀ p ∈ bx, p.1 ≠ p3) := ⟨by have := HE.out.lt mem0; omega, fun p hp e => by have := heap_lt (HE.out.at' p (List.mem_cons_of_mem _ hp)); omega⟩
  rw [hp3]
  obtain ⟨W1, hW1⟩ : ∃ V, W.alloc (.cells (cellsW [x0, x1, x2, x3, x4, x5, x6, x7]).toArray 47) = V := ⟨_, rfl⟩
  rw [hW1] at H3
  have hW1' : W.alloc (.cells #[Value.int IntKind.u32 ↑x0, Value.int IntKind.u32 ↑x1, Value.int IntKind.u32 ↑x2, Value.int IntKind.u32 ↑x3, Value.int IntKind.u32 ↑x4, Value.int IntKind.u32 ↑x5, Value.int IntKind.u32 ↑x6, Value.int IntKind.u32 ↑x7] 47) = W1 := hW1
  rw [hW1']
  clear hW1 hW1' hp3 HE
  clear k0 k1 k2 k3 k4 k5 k6 k7
  go_upto_region 5 with fail
  obtain ⟨p4, hp4⟩ : ∃ p4, W1.heap.size = p4 := ⟨_, rfl⟩
  have H4 : Hid (Ev B w rv l ((p4, .cells (VI .u8 z64) 49) :: (p3, .cells (cellsW st).toArray 47) :: (g, hsO rv s st pq blk hn) :: bx) (W1.alloc (.cells (VI .u8 z64) 49))) := by
    have := H3.out.new (.cells (VI .u8 z64) 49)
    rw [hp4] at this
    exact this
  have HN4 : Hid (g ≠ p4 ∧ p3 ≠ p4 ∧ ∀ p ∈ bx, p.1 ≠ p4) := ⟨by have := H3.out.lt mem1; omega, by have := H3.out.lt mem0; omega, fun p hp e => by have := heap_lt (H3.out.at' p (memr2 hp)); omega⟩
  rw [hp4]
  obtain ⟨W2, hW2⟩ : ∃ V, W1.alloc (.cells (VI .u8 z64) 49) = V := ⟨_, rfl⟩
  rw [hW2] at H4
  have hW2' : W1.alloc (.cells #[Value.int IntKind.u8 0, Value.int IntKind.u8 0, Value.int IntKind.u8 0, Value.int IntKind.u8 0, Value.int IntKind.u8 0, Value.int IntKind.u8 0, Value.int IntKind.u8 0, Value.int IntKind.u8 0, Value.int IntKind.u8 0, Value.int IntKind.u8 0, Value.int IntKind.u8 0, Value.int IntKind.u8 0, Value.int IntKind.u8 0, Value.int IntKind.u8 0, Value.int IntKind.u8 0, Value.int IntKind.u8 0, Value.int IntKind.u8 0, Value.int IntKind.u8 0, Value.int IntKind.u8 0, Value.int IntKind.u8 0, Value.int IntKind.u8 0, Value.int IntKind.u8 0, Value.int IntKind.u8 0, Value.int IntKind.u8 0, Value.int IntKind.u8 0, Value.int IntKind.u8 0, Value.int IntKind.u8 0, Value.int IntKind.u8 0, Value.int IntKind.u8 0, Value.int IntKind.u8 0, Value.int IntKind.u8 0, Value.int IntKind.u8 0, Value.int IntKind.u8 0, Value.int IntKind.u8 0, Value.int IntKind.u8 0, Value.int IntKind.u8 0, Value.int IntKind.u8 0, Value.int IntKind.u8 0, Value.int IntKind.u8 0, Value.int IntKind.u8 0, Value.int IntKind.u8 0, Value.int IntKind.u8 0, Value.int IntKind.u8 0, Value.int IntKind.u8 0, Value.int IntKind.u8 0, Value.int IntKind.u8 0, Value.int IntKind.u8 0, Value.int IntKind.u8 0, Value.int IntKind.u8 0, Value.int IntKind.u8 0, Value.int IntKind.u8 0, Value.int IntKind.u8 0, Value.int IntKind.u8 0, Value.int IntKind.u8 0, Value.int IntKind.u8 0, Value.int IntKind.u8 0, Value.int IntKind.u8 0, Value.int IntKind.u8 0, Value.int IntKind.u8 0, Value.int IntKind.u8 0, Value.int IntKind.u8 0, Value.int IntKind.u8 0, Value.int IntKind.u8 0, Value.int IntKind.u8 0] 49) = W2 := hW2
  rw [hW2']
  clear hW2 hW2' hp4 H3
  have HPT : Hid (putb z64 0 (hld A) = hld A ++ List.replicate (64 - hn) 0) := by
    have : putb z64 0 (hld A) = hld A ++ List.replicate (64 - hn) 0 := by
      rw [putb_zero _ _ (by rw [z64, List.length_replicate]; exact hld_le A), z64, List.drop_replicate, HST.out.2.1]
    exact this
  have HH : Hid (hn ≤ 64 ∧ pq + hn = A.length ∧ Byb (hld A)) := by
    have h1 := hld_le A
    have h2 := hld_len A
    have h3 := nbl_le A.length
    have h4 := HST.out
    have : hn ≤ 64 ∧ pq + hn = A.length ∧ Byb (hld A) := ⟨by omega, by omega, fun x hx => HSB.out.2.1 x (List.mem_of_mem_take (HSB.out.2.2 ▸ hx))⟩
    exact this
  refine wp_as (c' := rgSu5) (by kernel_rfl) ?_
  refine Su5 (g := g) (h := hn) (p := pq) (rv := rv) (p4 := p4) (kv := .int .i64 (hn : Int))
    (R0 := Ev B w rv (l) ((p4, .cells (VI .u8 z64) 49) :: (p3, .cells (cellsW st).toArray 47) :: (g, hsO rv s st pq blk hn) :: bx)) (R1 := Ev B w rv (l ++ [(2, (hn : Int))]) ((p4, .cells (VI .u8 z64) 49) :: (p3, .cells (cellsW st).toArray 47) :: (g, hsO rv s st pq blk hn) :: bx)) (R2 := Ev B w rv (l ++ [(2, (hn : Int))]) ((p4, .cells (VI .u8 (putb z64 0 (hld A))) 49) :: (p3, .cells (cellsW st).toArray 47) :: (g, hsO rv s st pq blk hn) :: bx))
    HH.out.1 H4.out.drew (fun Y h => ⟨hs_r (h.row mem2), hs_held HST.out.2.2.2.len HSB.out.1 (h.row mem2), hs_pr HST.out.2.2.2.len (h.row mem2)⟩) ?_ (fun Y h => ⟨hs_r (h.row mem2), hs_held HST.out.2.2.2.len HSB.out.1 (h.row mem2), hs_pr HST.out.2.2.2.len (h.row mem2)⟩) ?_ (fun Y h => ⟨hs_r (h.row mem2), hs_held HST.out.2.2.2.len HSB.out.1 (h.row mem2), hs_pr HST.out.2.2.2.len (h.row mem2)⟩) (fun _ _ d _ _ h => by cases d <;> exact h) ?_
  · exact fun Y h => v_at h (fun hr => by have := HL.out.1 hr; omega) _
  · intro Y hY ac o K Q ho hd hx hy hK
    have hnew : Ev B w rv (l ++ [(2, (hn : Int))]) ((p4, .cells (VI .u8 (putb z64 0 (hld A))) 49) :: (p3, .cells (cellsW st).toArray 47) :: (g, hsO rv s st pq blk hn) :: bx) (Y.setCells p4 0 ((hld A).map (Value.int .u8))) := by
      refine hY.set rfl (fun p hp e => ?_) (grow_setCells p4 _ _ Y) ?_
      · simp only [List.mem_cons] at hp
        rcases hp with rfl | rfl | hp
        · exact HN4.out.2.1 e
        · exact HN4.out.1 e
        · exact HN4.out.2.2 p hp e
      · exact vi_puts (hld A) (hY.row mem0)
    refine wpBuiltin (w' := Y.setCells p4 0 ((hld A).map (Value.int .u8))) (z := .int .i64 (hn : Int)) ho hd hx hy ?_ (hK _ hnew)
    have := run_copyX (W := Y) (gd := p4) (od := 0) (dl := 64) (dc := 64) (sl := hn) (sc := 64) (gs := g) (os := 11) (X := hld A) o.type (by rw [HST.out.2.1]; exact (Nat.min_eq_left HH.out.1).symm) (held_range HST.out.2.2.2.len HSB.out (hY.row mem2)) (there_vi (by rw [z64, List.length_replicate]; exact hld_le A) (hY.row mem0))
    rw [HST.out.2.1] at this; exact this
  intro W5 h5
  have c0 := hs_r (h5.row mem2)
  have CO : Hid (Calls Tryd.prog 17 #[rv, .int .i64 31] W5 fun e w' => e = .returned (.tuple #[]) ∧ Ev B w rv (l ++ [(2, (hn : Int))] ++ [(3, 31)]) ((p4, .cells (VI .u8 (putb z64 0 (hld A))) 49) :: (p3, .cells (cellsW st).toArray 47) :: (g, hsO rv s st pq blk hn) :: bx) w') := v_op h5 (fun hr => by have := HL.out.1 hr; simp only [List.length_append, List.length_cons, List.length_nil]; omega) 31
  clear h5 H4
  go_upto_region 7 with (go_at_call 17; refine Calls.mono CO.out ?_; rintro e W6 ⟨rfl, h6⟩; have H6 : Hid _ := h6; clear h6 CO)
  clear c0
  refine wp_as (c' := rgSu7) (by kernel_rfl) ?_
  refine Su7 (g := g) (h := hn) (p := pq) (rv := rv) (p3 := p3) (p4 := p4)
    (R0 := Ev B w rv (l ++ [(2, (hn : Int))] ++ [(3, 31)]) ((p4, .cells (VI .u8 (putb z64 0 (hld A))) 49) :: (p3, .cells (cellsW st).toArray 47) :: (g, hsO rv s st pq blk hn) :: bx)) (R1 := Ev B w rv (l ++ [(2, (hn : Int))] ++ [(3, 31)]) ((p4, .cells (VI .u8 (putb z64 0 (hld A))) 49) :: (p3, .cells (cellsW (dgw h A)).toArray 47) :: (g, hsO rv s st pq blk hn) :: bx))
    HH.out.1 (by have := HH.out.2.1; have := HL.out.2.1; show pq + hn < 18446744073709551616; omega) H6.out.drew (fun Y h => ⟨hs_r (h.row mem2), hs_held HST.out.2.2.2.len HSB.out.1 (h.row mem2), hs_pr HST.out.2.2.2.len (h.row mem2)⟩) ?_ (fun Y h => ⟨hs_r (h.row mem2), hs_held HST.out.2.2.2.len HSB.out.1 (h.row mem2), hs_pr HST.out.2.2.2.len (h.row mem2)⟩) (fun _ _ d _ _ h => by cases d <;> exact h) ?_
  · intro Y hY
    have hbl : (putb z64 0 (hld A)).length = 64 := by rw [putb_len]; exact List.length_replicate
    have hbb : Byb (putb z64 0 (hld A)) := by
      rw [HPT.out]
      intro x hx
      rcases List.mem_append.1 hx with hx | hx
      · exact HH.out.2.2 x hx
      · rw [(List.mem_replicate.1 hx).2]; decide
    have hrs : RS Y p3 [] [] st 47 := by unfold RS; rw [List.nil_append, List.append_nil]; exact hY.row mem1
    have := press_any p3 0 p4 0 [] [] rfl 47 st HST.out.2.2.2 (putb z64 0 (hld A)) hbb (pq + hn) 4294967295 (by have := HH.out.2.1; have := HL.out.2.1; omega) (by decide) Y hrs (fun i hi => by rw [cell_of_row Y _ _ _ _ _ (hY.row mem0), Nat.zero_add, VI_at _ _ _ (by omega)]) (HB.out.1.below hY.old HB.out.2)
    refine this.mono ?_
    rintro e w' ⟨rfl, hg, hr⟩
    refine ⟨rfl, (hY.flip.set rfl (fun p hp e => ?_) hg ?_).flip⟩
    · simp only [List.mem_cons] at hp
      rcases hp with rfl | rfl | hp
      · exact HN4.out.2.1 e.symm
      · exact HN3.out.1 e
      · exact HN3.out.2 p hp e
    · unfold RS at hr
      rw [List.nil_append, List.append_nil, HPT.out, prs_pad, HH.out.2.1, ← HST.out.1] at hr
      exact hr
  intro W7 h7
  have HS7 : Hid (S8 (dgw h A)) := dgw_s8 HS8.out A
  have CS : Hid (Calls Tryd.prog 20 #[.pointer (some ⟨p3, 0, none⟩)] W7 fun e w' => e = .returned (.agg (VI .u8 (spl (dgw h A) 32))) ∧ Below W7.heap.size W7 w') := spell_any p3 0 (dgw h A) HS7.out W7 (fun i hi => by
    have hr := h7.row mem1
    have hrs : RS W7 p3 [] [] (dgw h A) 47 := by unfold RS; rw [List.nil_append, List.append_nil]; exact hr
    exact hrs.cell rfl (by rw [HS7.out.len]; exact hi))
  have H7 : Hid (Ev B w rv (l ++ [(2, (hn : Int))] ++ [(3, 31)]) ((g, hsO rv s st pq blk hn) :: bx) W7) := h7.tail.tail
  clear h7 H6
  go_upto_region 9 with (first | (go_at_call 20; refine Calls.mono CS.out ?_; rintro e W8 ⟨rfl, h8⟩; have H8 : Hid _ := H7.out.below h8; clear h8 CS) | (with_reducible refine at_list ?_; refine hold_store 39 (.tmp 5) (.tmp 44) rfl ?_))
  refine store_row_new rfl 39 (.tmp 5) (.tmp 44) rfl W8.heap.size (VI .u8 (spl (dgw h A) 32)) rfl rfl rfl 39 (VI .u8 (List.replicate 32 0)) (by rw [VI_size, spl_len]; kernel_rfl) (by rw [VI_size, VI_size, spl_len]; rfl) (VI_one _ _) ?_
  obtain ⟨p5, hp5⟩ : ∃ p5, W8.heap.size = p5 := ⟨_, rfl⟩
  have H9 : Hid (Ev B w rv (l ++ [(2, (hn : Int))] ++ [(3, 31)]) ((p5, .cells (VI .u8 (spl (dgw h A) 32)) 39) :: (g, hsO rv s st pq blk hn) :: bx) (W8.alloc (.cells (VI .u8 (spl (dgw h A) 32)) 39))) := by
    have := H8.out.new (.cells (VI .u8 (spl (dgw h A) 32)) 39)
    rw [hp5] at this
    exact this
  rw [hp5]
  obtain ⟨W9, hW9⟩ : ∃ V, W8.alloc (.cells (VI .u8 (spl (dgw h A) 32)) 39) = V := ⟨_, rfl⟩
  rw [hW9] at H9 ⊢
  clear hW9 hp5 H8 H7
  have c1 := hs_size (H9.out.row mem1)
  obtain ⟨p6, hp6⟩ : ∃ p6, W9.heap.size = p6 := ⟨_, rfl⟩
  have hmk : (Instr.makeSlice 22 (.int .i64 (s : Int)) (.int .i64 (s : Int))).run Tryd.prog W9 = .ok (.slice (some ⟨p6, 0, none⟩) s s) (W9.alloc (.cells (VI .u8 (List.replicate s 0)) 5)) := by
    have := mk_b s s rfl (by have := HL.out.2.2; omega) W9
    rw [hp6] at this
    exact this
  have H10 : Hid (Ev B w rv (l ++ [(2, (hn : Int))] ++ [(3, 31)]) ((p6, .cells (VI .u8 (List.replicate s 0)) 5) :: (p5, .cells (VI .u8 (spl (dgw h A) 32)) 39) :: (g, hsO rv s st pq blk hn) :: bx) (W9.alloc (.cells (VI .u8 (List.replicate s 0)) 5))) := by
    have := H9.out.new (.cells (VI .u8 (List.replicate s 0)) 5)
    rw [hp6] at this
    exact this
  have HN6 : Hid (p5 ≠ p6 ∧ g ≠ p6 ∧ ∀ p ∈ bx, p.1 ≠ p6) := ⟨by have := H9.out.lt mem0; omega, by have := H9.out.lt mem1; omega, fun p hp e => by have := heap_lt (H9.out.at' p (memr2 hp)); omega⟩
  obtain ⟨W10, hW10⟩ : ∃ V, W9.alloc (.cells (VI .u8 (List.replicate s 0)) 5) = V := ⟨_, rfl⟩
  rw [hW10] at H10 hmk
  clear hW10 hp6 H9
  go_upto_region 10 with fail
  clear hmk c1
  have HSP : Hid (s ≤ 32 ∧ (spl (dgw h A) s).length = s) := ⟨HL.out.2.2, spl_len _ _⟩
  have HCP : Hid (∀ ty, (Builtin.copy_ #[22, 22] ty #[.slice (some ⟨p6, 0, none⟩) s s, .slice (some ⟨p5, 0, none⟩) 32 32]).run Tryd.prog W10 = .ok (.int .i64 (s : Int)) (W10.setCells p6 0 ((spl (dgw h A) s).map (Value.int .u8)))) := fun ty => by
    have hr := range_row' (H10.out.row mem1) 0 s (by rw [spl_len]; have := HSP.out.1; omega)
    rw [List.drop_zero, spl_take _ HSP.out.1] at hr
    have := run_copyX (W := W10) (gd := p6) (od := 0) (dl := s) (dc := s) (sl := 32) (sc := 32) (X := spl (dgw h A) s) ty (by rw [HSP.out.2]; exact (Nat.min_eq_right HSP.out.1).symm) hr (there_vi (by rw [List.length_replicate, HSP.out.2]; exact Nat.le_refl _) (H10.out.row mem0))
    rw [HSP.out.2] at this
    exact this
  have H11 : Hid (Ev B w rv (l ++ [(2, (hn : Int))] ++ [(3, 31)]) ((p6, .cells (VI .u8 (spl (dgw h A) s)) 5) :: (p5, .cells (VI .u8 (spl (dgw h A) 32)) 39) :: (g, hsO rv s st pq blk hn) :: bx) (W10.setCells p6 0 ((spl (dgw h A) s).map (Value.int .u8)))) := by
    refine H10.out.set rfl (fun p hp e => ?_) (grow_setCells p6 _ _ W10) ?_
    · simp only [List.mem_cons] at hp
      rcases hp with rfl | rfl | hp
      · exact HN6.out.1 e
      · exact HN6.out.2.1 e
      · exact HN6.out.2.2 p hp e
    · have := vi_puts (spl (dgw h A) s) (o := 0) (H10.out.row mem0)
      rw [putb_zero _ _ (by rw [List.length_replicate, HSP.out.2]; exact Nat.le_refl _), HSP.out.2, List.drop_replicate, Nat.sub_self, List.replicate_zero, List.append_nil] at this
      exact this
  go_upto_region 11 with (with_reducible refine at_list ?_; first | (refine wpList_copy_run W10 rfl (.tmp 50) (.tmp 51) 22 22 rfl (.slice (some ⟨p6, 0, none⟩) s s) (.slice (some ⟨p5, 0, none⟩) 32 32) rfl rfl (HCP.out _) ?_))
  obtain ⟨W11, hW11⟩ : ∃ V, W10.setCells p6 0 ((spl (dgw h A) s).map (Value.int .u8)) = V := ⟨_, rfl⟩
  rw [hW11] at H11 ⊢
  clear hW11 HCP H10
  go_wp2
  go_ret
  refine ⟨p6, rfl, ?_, ?_⟩
  · intro p hp e
    rcases List.mem_cons.1 hp with rfl | hp
    · exact HN6.out.2.1 e
    · exact HN6.out.2.2 p hp e
  · exact H11.out.flip.tail.cast (by simp)
end Go.Proofs.YtfkbgodfcnmepabDoor
