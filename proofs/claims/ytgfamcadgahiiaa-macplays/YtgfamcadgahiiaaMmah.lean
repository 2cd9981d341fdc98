import Derived.Test.YtgfamcadgahiiaaMmag
namespace Go.Proofs.Ytgfamcadgahiiaa
set_option linter.unusedSimpArgs false
set_option linter.unusedVariables false
open Go.ChangeShapes Go.WideShapes Go.ChangeAt Go.RowKit Go.Pin Go.Prm
theorem load_midI {P : Program} {ops : Array Oper} {rest : List Oper} {op : Oper} {a : Act} {w : World} {Q : Exit → Act → World → Prop} (hgd : op.guard = none) (ty : TypeId) (x : Operand) (ho : op.op = .load ty x)
    (b o : Nat) (hx : a.eval x = .pointer (some ⟨b, o, none⟩)) (k : IntKind) (L : List Int) (d : TypeDesc) (hc : w.rangeAt b o (L.map (Value.int k)))
    (hu : P.underlying ty = some d) (hd : d.isRow = true) (hi : (P.info? ty).map (·.size) = some L.length)
    (h : wpList P ops Q rest (a.put op.dst (.agg (VI k L))) w) : wpList P ops Q (op :: rest) a w :=
  wpList_load_mid hgd ty x ho b o hx _ d hc hu hd (by rw [List.length_map]; exact hi) h
theorem store_rowI {P : Program} {ops : Array Oper} {rest : List Oper} {op : Oper} {a : Act} {w : World} {Q : Exit → Act → World → Prop} (hgd : op.guard = none) (ty : TypeId) (x y : Operand) (ho : op.op = .store ty x y)
    (g : Nat) (k : IntKind) (L : List Int) (hx : a.eval x = .pointer (some ⟨g, 0, none⟩)) (hy : a.eval y = .agg (VI k L)) (ht : w.there g 0 L.length) (hi : (P.info? ty).map (·.size) = some L.length) (hd : op.dst = none)
    (h : wpList P ops Q rest a (w.setCells g 0 (VI k L).toList)) : wpList P ops Q (op :: rest) a w :=
  wpList_store_mid hgd ty x y ho g 0 (VI k L) hx hy (by rw [VI_size]; exact ht) (by rw [VI_size]; exact hi) (VI_one _ _) (by rw [hd]; exact h)
theorem infoT : (Try.prog.info? 36).map (·.size) = some 16 := by kernel_rfl
theorem info17' : (Try.prog.info? 67).map (·.size) = some 17 := by kernel_rfl
/-- what Tag makes of it -/
def fin (r s D : List Int) : List Int := if D.length = 0 then s else wth r s (blkOf D)
theorem blkOf_set {D : List Int} (h : D.length < 17) : D ++ List.replicate (17 - D.length) 0 = D ++ ([0] ++ List.replicate (16 - D.length) 0) := by
  have e : 17 - D.length = (16 - D.length) + 1 := by omega
  rw [e, List.replicate_succ]
  rfl
theorem setRowAll {V : World} {g : Nat} {k : IntKind} {L L' : List Int} {T : TypeId} (h : V.heap[g]? = some (.cells (VI k L) T)) (hl : L'.length = L.length) : (V.setCells g 0 (VI k L').toList).heap[g]? = some (.cells (VI k L') T) := by
  have h0 : V.heap[g]? = some (.cells ([] ++ (L.map (Value.int k) ++ [])).toArray T) := by simpa [VI] using h
  have := heap_setCells_row g (L'.map (Value.int k)) _ _ _ V (by simpa using hl) h0
  simpa [VI] using this
theorem size_setCells' (b : Nat) : ∀ (vs : List Value) (o : Nat) (w : World), (w.setCells b o vs).heap.size = w.heap.size
  | [], _, _ => rfl
  | v :: r, o, w => by rw [World.setCells, size_setCells' b r]; simp
set_option maxRecDepth 100000 in
set_option maxHeartbeats 4000000 in
theorem tag_any {B : Nat} {w : World} {rv : Value} {l : List (Int × Int)} {bx : List (Nat × Obj)} {W : World} {g : Nat} {r m s D : List Int} (h : Ev B w rv l ((g, macO rv r m s (D ++ List.replicate (17 - D.length) 0) D.length) :: bx) W) (hl : rv ≠ .pointer none → l.length ≤ 800000) (hD : D.length < 16) (hM : MS r m s (D ++ List.replicate (17 - D.length) 0)) (hDb : Byt D) :
    Calls Try.prog 13 #[.pointer (some ⟨g, 0, none⟩)] W fun e w' => e = .returned (.agg (VI .u8 (smt (bts (num (fin r s D))) m))) ∧ Ev B w rv (l ++ tlog D.length) ((g, macO rv r m s (D ++ List.replicate (17 - D.length) 0) D.length) :: bx) w' := by
  obtain ⟨q, hq⟩ : ∃ q, W.heap.size = q := ⟨_, rfl⟩
  have e3 := (h.new (.cells (VI .u8 (List.replicate 16 0)) 36)).new (.cells (VI .u64 s) 66)
  simp only [size_alloc, hq] at e3
  obtain ⟨V0, hV0⟩ : ∃ V, W.alloc (.cells (VI .u8 (List.replicate 16 0)) 36) = V := ⟨_, rfl⟩
  obtain ⟨W0, hW0⟩ : ∃ V, V0.alloc (.cells (VI .u64 s) 66) = V := ⟨_, rfl⟩
  have hsV : V0.heap.size = q + 1 := by rw [← hV0, size_alloc, hq]
  have hgV : V0.heap[g]? = some (macO rv r m s (D ++ List.replicate (17 - D.length) 0) D.length) := by
    have := (h.new (.cells (VI .u8 (List.replicate 16 0)) 36)).row mem1
    rw [hV0] at this; exact this
  rw [hV0, hW0] at e3
  rw [zero16_lit] at hV0
  have hbxq : ∀ p ∈ (g, macO rv r m s (D ++ List.replicate (17 - D.length) 0) D.length) :: bx, p.1 < q := fun p hp => by rw [← hq]; exact heap_lt (h.at' p hp)
  have E3 : Hid (Ev B w rv l ((q + 1, .cells (VI .u64 s) 66) :: (q, .cells (VI .u8 (List.replicate 16 0)) 36) :: (g, macO rv r m s (D ++ List.replicate (17 - D.length) 0) D.length) :: bx) W0) := e3
  have HM : Hid (MS r m s (D ++ List.replicate (17 - D.length) 0)) := hM
  have HL : Hid ((rv ≠ .pointer none → l.length ≤ 800000) ∧ D.length < 16 ∧ Byt D ∧ D.length < 17 ∧ (∀ p ∈ (g, macO rv r m s (D ++ List.replicate (17 - D.length) 0) D.length) :: bx, p.1 < q)) := ⟨hl, hD, hDb, by omega, hbxq⟩
  have HLD : Hid (V0.rangeAt g 22 (s.map (Value.int .u64))) := mac_sum hM.r.len hM.m.len hgV
  have HSV : Hid (V0.heap.size = q + 1) := hsV
  have HIS : Hid ((Try.prog.info? 66).map (·.size) = some s.length) := by
    have : (Try.prog.info? 66).map (·.size) = some s.length := by rw [hM.s.len]; exact infoN
    exact this
  have HIS' : Hid ((Try.prog.info? 66).map (·.size) = some (VI .u64 s).size) := by
    have : (Try.prog.info? 66).map (·.size) = some (VI .u64 s).size := by rw [VI_size, hM.s.len]; exact infoN
    exact this
  have HSS : Hid ((VI .u64 (List.replicate 5 0)).size = (VI .u64 s).size) := by
    have : (VI .u64 (List.replicate 5 0)).size = (VI .u64 s).size := by rw [VI_size, VI_size, hM.s.len]; rfl
    exact this
  clear e3 h hM hl hD hDb hbxq hgV hsV
  go_enter Try.func13, Try.ntmps13
  go_wp2_with (with_reducible refine at_list ?_; first | (refine load_midI rfl 66 (.tmp 10) rfl g 22 rfl .u64 s _ HLD.out Try.underlying66 rfl HIS.out ?_) | (refine hold_store 66 (.tmp 3) (.tmp 11) rfl ?_))
  refine store_row_new rfl 66 (.tmp 3) (.tmp 11) rfl V0.heap.size (VI .u64 s) rfl rfl rfl 66 (VI .u64 (List.replicate 5 0)) HIS'.out HSS.out (VI_one _ _) ?_
  rw [hW0, HSV.out]
  go_upto_region 4 with fail
  refine wp_as (c' := rgTg4) (by kernel_rfl) ?_
  refine Tg4 (g := g) (h := D.length) (rv := rv) (r := r) (m := m) (s := s) (b := D ++ List.replicate (17 - D.length) 0)
    (R0 := Ev B w rv l ((q + 1, .cells (VI .u64 s) 66) :: (q, .cells (VI .u8 (List.replicate 16 0)) 36) :: (g, macO rv r m s (D ++ List.replicate (17 - D.length) 0) D.length) :: bx))
    (R1 := Ev B w rv (l ++ [ifl (decide (0 < D.length))]) ((q + 1, .cells (VI .u64 s) 66) :: (q, .cells (VI .u8 (List.replicate 16 0)) 36) :: (g, macO rv r m s (D ++ List.replicate (17 - D.length) 0) D.length) :: bx))
    HM E3.out.drew (fun Y h => ⟨h.row mem2, trivial⟩) ?_ (fun Y h => ⟨h.row mem2, trivial⟩) (fun _ _ d _ _ h => by cases d <;> exact h) ?_
  · exact fun Y h => v_if h (fun hr => by have := HL.out.1 hr; omega) _
  intro W1 h1
  clear E3 HLD HIS HIS' HSS HSV hW0 hV0
  by_cases hD0 : 0 < D.length
  · have hdec : decide (0 < D.length) = true := by simpa using hD0
    rw [hdec] at h1 ⊢
    have HFIN : Hid (fin r s D = wth r s (blkOf D)) := by
      have : fin r s D = wth r s (blkOf D) := by unfold fin; rw [if_neg (by omega)]
      exact this
    have HLOG : Hid (tlog D.length = [ifl true] ++ [(2, (D.length : Int))] ++ tkl) := by
      have : tlog D.length = [ifl true] ++ [(2, (D.length : Int))] ++ tkl := by unfold tlog; rw [if_pos hD0]; rfl
      exact this
    have e4 := h1.new (.cells (VI .u8 (D ++ List.replicate (17 - D.length) 0)) 67)
    obtain ⟨q2, hq2⟩ : ∃ q2, W1.heap.size = q2 := ⟨_, rfl⟩
    obtain ⟨W2, hW2⟩ : ∃ V, W1.alloc (.cells (VI .u8 (D ++ List.replicate (17 - D.length) 0)) 67) = V := ⟨_, rfl⟩
    rw [hW2, hq2] at e4
    have hlt1 : q + 1 < q2 := by rw [← hq2]; exact h1.lt mem0
    have E4 : Hid _ := e4
    have HQ2 : Hid (q + 1 < q2) := hlt1
    have HQE : Hid (W1.heap.size = q2) := hq2
    have HLB : Hid (W1.rangeAt g 27 ((D ++ List.replicate (17 - D.length) 0).map (Value.int .u8))) := mac_begun HM.out.r.len HM.out.m.len HM.out.s.len (h1.row mem2)
    have HIB : Hid ((Try.prog.info? 67).map (·.size) = some (D ++ List.replicate (17 - D.length) 0).length) := by
      have : (Try.prog.info? 67).map (·.size) = some (D ++ List.replicate (17 - D.length) 0).length := by rw [HM.out.b.len]; exact info17'
      exact this
    have HIB' : Hid ((Try.prog.info? 67).map (·.size) = some (VI .u8 (D ++ List.replicate (17 - D.length) 0)).size) := by
      have : (Try.prog.info? 67).map (·.size) = some (VI .u8 (D ++ List.replicate (17 - D.length) 0)).size := by rw [VI_size, HM.out.b.len]; exact info17'
      exact this
    have HSB : Hid ((VI .u8 (List.replicate 17 0)).size = (VI .u8 (D ++ List.replicate (17 - D.length) 0)).size) := by
      have : (VI .u8 (List.replicate 17 0)).size = (VI .u8 (D ++ List.replicate (17 - D.length) 0)).size := by rw [VI_size, VI_size, HM.out.b.len]; rfl
      exact this
    clear e4 h1 hlt1 hq2
    go_wp2_with (with_reducible refine at_list ?_; first | (refine load_midI rfl 67 (.tmp 24) rfl g 27 rfl .u8 (D ++ List.replicate (17 - D.length) 0) _ HLB.out Try.underlying67 rfl HIB.out ?_) | (refine hold_store 67 (.tmp 4) (.tmp 25) rfl ?_))
    refine store_row_new rfl 67 (.tmp 4) (.tmp 25) rfl W1.heap.size (VI .u8 (D ++ List.replicate (17 - D.length) 0)) rfl rfl rfl 67 (VI .u8 (List.replicate 17 0)) HIB'.out HSB.out (VI_one _ _) ?_
    rw [hW2, HQE.out]
    go_upto_region 6 with fail
    refine wp_as (c' := rgTg6) (by kernel_rfl) ?_
    refine Tg6 (g := g) (h := D.length) (rv := rv) (r := r) (m := m) (s := s) (b := D ++ List.replicate (17 - D.length) 0) (p4 := q2)
      (R0 := Ev B w rv (l ++ [ifl true]) ((q2, .cells (VI .u8 (D ++ List.replicate (17 - D.length) 0)) 67) :: (q + 1, .cells (VI .u64 s) 66) :: (q, .cells (VI .u8 (List.replicate 16 0)) 36) :: (g, macO rv r m s (D ++ List.replicate (17 - D.length) 0) D.length) :: bx))
      (R1 := Ev B w rv (l ++ [ifl true] ++ [(2, (D.length : Int))]) ((q2, .cells (VI .u8 (D ++ List.replicate (17 - D.length) 0)) 67) :: (q + 1, .cells (VI .u64 s) 66) :: (q, .cells (VI .u8 (List.replicate 16 0)) 36) :: (g, macO rv r m s (D ++ List.replicate (17 - D.length) 0) D.length) :: bx))
      (R2 := Ev B w rv (l ++ [ifl true] ++ [(2, (D.length : Int))]) ((q2, .cells (VI .u8 (blkOf D)) 67) :: (q + 1, .cells (VI .u64 s) 66) :: (q, .cells (VI .u8 (List.replicate 16 0)) 36) :: (g, macO rv r m s (D ++ List.replicate (17 - D.length) 0) D.length) :: bx))
      HM HL.out.2.2.2.1 E4.out.drew (fun Y h => ⟨h.row mem3, trivial⟩) ?_ (fun Y h => ⟨h.row mem3, trivial⟩) ?_ (fun Y h => ⟨h.row mem3, trivial⟩) (fun _ _ d _ _ h => by cases d <;> exact h) ?_
    · exact fun Y h => v_at h (fun hr => by have := HL.out.1 hr; simp; omega) _
    · intro Y h a o K Q ho hd hx hK
      have hrow := h.row mem0
      have hc : (Y.cell? ⟨q2, D.length, none⟩).isSome = true := by
        rw [cell_of_row Y _ _ _ _ _ hrow, VI_at _ _ _ (by rw [HM.out.b.len]; exact HL.out.2.2.2.1)]; rfl
      obtain ⟨c0, hc0⟩ := Option.isSome_iff_exists.1 hc
      have hf : Y.frozen? ⟨q2, D.length, none⟩ = false := frozen_of_row Y _ _ _ _ hrow
      have hnew : Ev B w rv (l ++ [ifl true] ++ [(2, (D.length : Int))]) ((q2, .cells (VI .u8 (blkOf D)) 67) :: (q + 1, .cells (VI .u64 s) 66) :: (q, .cells (VI .u8 (List.replicate 16 0)) 36) :: (g, macO rv r m s (D ++ List.replicate (17 - D.length) 0) D.length) :: bx) (Y.setCell ⟨q2, D.length, none⟩ (.int .u8 1)) := by
        have h' := h
        rw [show VI .u8 (D ++ List.replicate (17 - D.length) 0) = VI .u8 (D ++ ([0] ++ List.replicate (16 - D.length) 0)) by rw [blkOf_set HL.out.2.2.2.1]] at h'
        refine Ev.copyInto (A := D) (X := [0]) (X' := [1]) (C := List.replicate (16 - D.length) 0) h' (fun p hp => ?_) rfl
        rcases List.mem_cons.1 hp with rfl | hp
        · have := HQ2.out; show q + 1 ≠ q2; omega
        · rcases List.mem_cons.1 hp with rfl | hp
          · have := HQ2.out; show q ≠ q2; omega
          · have := HL.out.2.2.2.2 p hp; have := HQ2.out; omega
      have hK' := hK _ hnew
      unfold Oper.wp execOp
      simp only [ho, hx]
      go_simp
      exact hK'
    intro W3 h3
    have h3' : W3.rangeAt (q + 1) 0 (s.map (Value.int .u64)) ∧ W3.rangeAt q2 0 ((blkOf D).map (Value.int .u8)) := ⟨row_range (h3.row mem1), row_range (h3.row mem0)⟩
    have H3 : Hid _ := h3
    have HR3 : Hid _ := h3'
    have hbk : Key17 (blkOf D) := ⟨blkOf_len (by have := HL.out.2.1; omega), blkOf_byt HL.out.2.2.1⟩
    have HIS : Hid ((Try.prog.info? 66).map (·.size) = some s.length) := by
      have : (Try.prog.info? 66).map (·.size) = some s.length := by rw [HM.out.s.len]; exact infoN
      exact this
    have HIK : Hid ((Try.prog.info? 67).map (·.size) = some (blkOf D).length) := by
      have : (Try.prog.info? 67).map (·.size) = some (blkOf D).length := by rw [hbk.len]; exact info17'
      exact this
    have hz := wth_lim HM.out.r HM.out.s (blkOf_byt HL.out.2.2.1)
    have HZ : Hid (Lim (wth r s (blkOf D))) := hz
    have HIW : Hid ((Try.prog.info? 66).map (·.size) = some (wth r s (blkOf D)).length) := by
      have : (Try.prog.info? 66).map (·.size) = some (wth r s (blkOf D)).length := by rw [hz.len]; exact infoN
      exact this
    have HWI : Hid (Calls Try.prog 38 #[.pointer (some ⟨g, 0, none⟩), .agg (VI .u64 s), .agg (VI .u8 (blkOf D))] W3 fun e w' => e = .returned (.agg (VI .u64 (wth r s (blkOf D)))) ∧ Ev B w rv (l ++ [ifl true] ++ [(2, (D.length : Int))] ++ tkl) ((q2, .cells (VI .u8 (blkOf D)) 67) :: (q + 1, .cells (VI .u64 s) 66) :: (q, .cells (VI .u8 (List.replicate 16 0)) 36) :: (g, macO rv r m s (D ++ List.replicate (17 - D.length) 0) D.length) :: bx) w') := with_any h3 (fun hr => by have := HL.out.1 hr; simp; omega) mem3 HM.out HM.out.s hbk
    clear h3 h3' hbk hz E4 HLB HIB HIB' HSB HQE hW2
    go_wp2_with (first | (go_at_call 38; refine Calls.mono HWI.out ?_; rintro e W4 ⟨rfl, h4⟩; have H4 : Hid _ := h4; clear h4) | (with_reducible refine at_list ?_; first | (refine load_midI rfl 66 (.tmp 3) rfl (q + 1) 0 rfl .u64 s _ HR3.out.1 Try.underlying66 rfl HIS.out ?_) | (refine load_midI rfl 67 (.tmp 4) rfl q2 0 rfl .u8 (blkOf D) _ HR3.out.2 Try.underlying67 rfl HIK.out ?_) | (refine hold_store 66 (.tmp 3) (.tmp 39) rfl ?_)))
    have ht4 := row_there (H4.out.row mem1)
    rw [HM.out.s.len] at ht4
    refine store_rowI rfl 66 (.tmp 3) (.tmp 39) rfl (q + 1) .u64 (wth r s (blkOf D)) rfl rfl (by rw [HZ.out.len]; exact ht4) HIW.out rfl ?_
    have h5 := H4.out.flip.storeRow (L' := wth r s (blkOf D)) (fun p hp => by
      rcases List.mem_cons.1 hp with rfl | hp
      · have := HQ2.out; show q2 ≠ q + 1; omega
      · rcases List.mem_cons.1 hp with rfl | hp
        · show q ≠ q + 1; omega
        · have := HL.out.2.2.2.2 p hp; omega) (by rw [HZ.out.len, HM.out.s.len])
    obtain ⟨W5, hW5⟩ : ∃ V, W4.setCells (q + 1) 0 (VI .u64 (wth r s (blkOf D))).toList = V := ⟨_, rfl⟩
    rw [hW5] at h5 ⊢
    have H5 : Hid (Ev B w rv (l ++ [ifl true] ++ [(2, (D.length : Int))] ++ tkl) ((q + 1, .cells (VI .u64 (wth r s (blkOf D))) 66) :: (q, .cells (VI .u8 (List.replicate 16 0)) 36) :: (g, macO rv r m s (D ++ List.replicate (17 - D.length) 0) D.length) :: bx) W5) := h5.flip.tail
    clear h5 ht4 HWI HR3 H3 H4 hW5
    have HLOG' : Hid (l ++ tlog D.length = l ++ [ifl true] ++ [(2, (D.length : Int))] ++ tkl) := by
      have : l ++ tlog D.length = l ++ [ifl true] ++ [(2, (D.length : Int))] ++ tkl := by rw [HLOG.out]; simp
      exact this
    clear HLOG
    have HLOG : Hid _ := HLOG'.out
    clear HLOG'
    go_upto_region 8 with fail
    refine wp_as (c' := rgTg8) (by kernel_rfl) ?_
    refine Tg8 (g := g) (h := D.length) (rv := rv) (r := r) (m := m) (s := s) (b := D ++ List.replicate (17 - D.length) 0) (p3 := q + 1) (p2 := q) (sm := wth r s (blkOf D)) (tg := smt (bts (num (wth r s (blkOf D)))) m)
      (R0 := Ev B w rv (l ++ [ifl true] ++ [(2, (D.length : Int))] ++ tkl) ((q + 1, .cells (VI .u64 (wth r s (blkOf D))) 66) :: (q, .cells (VI .u8 (List.replicate 16 0)) 36) :: (g, macO rv r m s (D ++ List.replicate (17 - D.length) 0) D.length) :: bx))
      (R1 := Ev B w rv (l ++ [ifl true] ++ [(2, (D.length : Int))] ++ tkl) ((q + 1, .cells (VI .u64 (wth r s (blkOf D))) 66) :: (q, .cells (VI .u8 (List.replicate 16 0)) 36) :: (g, macO rv r m s (D ++ List.replicate (17 - D.length) 0) D.length) :: bx))
      (R2 := Ev B w rv (l ++ [ifl true] ++ [(2, (D.length : Int))] ++ tkl) ((q, .cells (VI .u8 (smt (bts (num (wth r s (blkOf D)))) m)) 36) :: (q + 1, .cells (VI .u64 (wth r s (blkOf D))) 66) :: (g, macO rv r m s (D ++ List.replicate (17 - D.length) 0) D.length) :: bx))
      HM (HZ.out).len H5.out.drew (fun Y h => ⟨h.row mem2, row_range (h.row mem0)⟩) ?_ (fun Y h => ⟨h.row mem2, row_range (h.row mem0)⟩) ?_ (fun Y h => ⟨h.row mem2, row_range (h.row mem1)⟩) (fun _ _ d _ _ h => by cases d <;> exact h) ?_
    · exact fun Y h => (sum_any _ m (HZ.out) HM.out.m Y).mono fun e w' hh => ⟨hh.1, h.below hh.2⟩
    · intro Y h a o K Q ho hd hx hy hK
      refine wp_storeBox h.flip ?_ (by rw [smt_len, List.length_replicate]) (by rw [List.length_replicate]; exact infoT) ho hd hx hy hK
      intro p hp
      rcases List.mem_cons.1 hp with rfl | hp
      · show q + 1 ≠ q; omega
      · have := HL.out.2.2.2.2 p hp; omega
    intro W9 h9
    have hr9 := h9.row mem0
    have HF : Hid (Ev B w rv (l ++ [ifl true] ++ [(2, (D.length : Int))] ++ tkl) ((g, macO rv r m s (D ++ List.replicate (17 - D.length) 0) D.length) :: bx) W9) := h9.tail.tail
    have HR9 : Hid (W9.heap[q]? = some (.cells (VI .u8 (smt (bts (num (wth r s (blkOf D)))) m)) 36)) := hr9
    have HI9 : Hid ((Try.prog.info? 36).map (·.size) = some (VI .u8 (smt (bts (num (wth r s (blkOf D)))) m)).size) := by
      have : (Try.prog.info? 36).map (·.size) = some (VI .u8 (smt (bts (num (wth r s (blkOf D)))) m)).size := by rw [VI_size, smt_len]; exact infoT
      exact this
    clear hr9 h9
    go_wp2
    refine bodyPost_ret (v := .agg (VI .u8 (smt (bts (num (wth r s (blkOf D)))) m))) ?_ rfl ⟨by rw [HFIN.out], by rw [HLOG.out]; exact HF.out⟩
    exact results_cell_row (P := Try.prog) (fn := Try.f13) (p := 2) (ty := 36) rfl _ _ q 36 (VI .u8 (smt (bts (num (wth r s (blkOf D)))) m)) (0, 0) _ rfl HR9.out Try.underlying36 rfl HI9.out
  · have hdec : decide (0 < D.length) = false := by simpa using hD0
    rw [hdec] at h1 ⊢
    have HFIN : Hid (fin r s D = s) := by
      have : fin r s D = s := by unfold fin; rw [if_pos (by omega)]
      exact this
    have HLOG : Hid (l ++ tlog D.length = l ++ [ifl false]) := by
      have : l ++ tlog D.length = l ++ [ifl false] := by unfold tlog; rw [if_neg hD0]
      exact this
    have H5 : Hid _ := h1
    clear h1
    go_upto_region 8 with fail
    refine wp_as (c' := rgTg8) (by kernel_rfl) ?_
    refine Tg8 (g := g) (h := D.length) (rv := rv) (r := r) (m := m) (s := s) (b := D ++ List.replicate (17 - D.length) 0) (p3 := q + 1) (p2 := q) (sm := s) (tg := smt (bts (num (s))) m)
      (R0 := Ev B w rv (l ++ [ifl false]) ((q + 1, .cells (VI .u64 (s)) 66) :: (q, .cells (VI .u8 (List.replicate 16 0)) 36) :: (g, macO rv r m s (D ++ List.replicate (17 - D.length) 0) D.length) :: bx))
      (R1 := Ev B w rv (l ++ [ifl false]) ((q + 1, .cells (VI .u64 (s)) 66) :: (q, .cells (VI .u8 (List.replicate 16 0)) 36) :: (g, macO rv r m s (D ++ List.replicate (17 - D.length) 0) D.length) :: bx))
      (R2 := Ev B w rv (l ++ [ifl false]) ((q, .cells (VI .u8 (smt (bts (num (s))) m)) 36) :: (q + 1, .cells (VI .u64 (s)) 66) :: (g, macO rv r m s (D ++ List.replicate (17 - D.length) 0) D.length) :: bx))
      HM (HM.out.s).len H5.out.drew (fun Y h => ⟨h.row mem2, row_range (h.row mem0)⟩) ?_ (fun Y h => ⟨h.row mem2, row_range (h.row mem0)⟩) ?_ (fun Y h => ⟨h.row mem2, row_range (h.row mem1)⟩) (fun _ _ d _ _ h => by cases d <;> exact h) ?_
    · exact fun Y h => (sum_any _ m (HM.out.s) HM.out.m Y).mono fun e w' hh => ⟨hh.1, h.below hh.2⟩
    · intro Y h a o K Q ho hd hx hy hK
      refine wp_storeBox h.flip ?_ (by rw [smt_len, List.length_replicate]) (by rw [List.length_replicate]; exact infoT) ho hd hx hy hK
      intro p hp
      rcases List.mem_cons.1 hp with rfl | hp
      · show q + 1 ≠ q; omega
      · have := HL.out.2.2.2.2 p hp; omega
    intro W9 h9
    have hr9 := h9.row mem0
    have HF : Hid (Ev B w rv (l ++ [ifl false]) ((g, macO rv r m s (D ++ List.replicate (17 - D.length) 0) D.length) :: bx) W9) := h9.tail.tail
    have HR9 : Hid (W9.heap[q]? = some (.cells (VI .u8 (smt (bts (num (s))) m)) 36)) := hr9
    have HI9 : Hid ((Try.prog.info? 36).map (·.size) = some (VI .u8 (smt (bts (num (s))) m)).size) := by
      have : (Try.prog.info? 36).map (·.size) = some (VI .u8 (smt (bts (num (s))) m)).size := by rw [VI_size, smt_len]; exact infoT
      exact this
    clear hr9 h9
    go_wp2
    refine bodyPost_ret (v := .agg (VI .u8 (smt (bts (num (s))) m))) ?_ rfl ⟨by rw [HFIN.out], by rw [HLOG.out]; exact HF.out⟩
    exact results_cell_row (P := Try.prog) (fn := Try.f13) (p := 2) (ty := 36) rfl _ _ q 36 (VI .u8 (smt (bts (num (s))) m)) (0, 0) _ rfl HR9.out Try.underlying36 rfl HI9.out
set_option maxRecDepth 100000 in
theorem tag_nil (W : World) : Calls Try.prog 13 #[.pointer none] W fun e w' => e = .returned (.agg (VI .u8 (List.replicate 16 0))) ∧ Below W.heap.size W w' := by
  have HB : Hid (Below W.heap.size W (W.alloc (.cells (VI .u8 (List.replicate 16 0)) 36))) := (Below.refl _ _).alloc (Nat.le_refl _) _
  have HR : Hid ((W.alloc (.cells (VI .u8 (List.replicate 16 0)) 36)).heap[W.heap.size]? = some (.cells (VI .u8 (List.replicate 16 0)) 36)) := heap_alloc_new W _
  have HI : Hid ((Try.prog.info? 36).map (·.size) = some (VI .u8 (List.replicate 16 0)).size) := infoT
  obtain ⟨V, hV⟩ : ∃ V, W.alloc (.cells (VI .u8 (List.replicate 16 0)) 36) = V := ⟨_, rfl⟩
  rw [hV] at HB HR
  rw [zero16_lit] at hV
  go_enter Try.func13, Try.ntmps13
  go_wp2_with (with_reducible refine at_list ?_; first | (refine hold_store 36 (.tmp 2) (.tmp 7) rfl ?_))
  have ht := row_there HR.out
  refine store_rowI rfl 36 (.tmp 2) (.tmp 7) rfl W.heap.size .u8 (List.replicate 16 0) rfl rfl ht infoT rfl ?_
  have hb2 : Below W.heap.size W (V.setCells W.heap.size 0 (VI .u8 (List.replicate 16 0)).toList) := HB.out.trans ((but_setCells' _ _ _ _).below (fun k hk => by omega))
  have hr2 : (V.setCells W.heap.size 0 (VI .u8 (List.replicate 16 0)).toList).heap[W.heap.size]? = some (.cells (VI .u8 (List.replicate 16 0)) 36) := by
    exact setRowAll HR.out rfl
  obtain ⟨V2, hV2⟩ : ∃ V2, V.setCells W.heap.size 0 (VI .u8 (List.replicate 16 0)).toList = V2 := ⟨_, rfl⟩
  rw [hV2] at hb2 hr2 ⊢
  have HB2 : Hid _ := hb2
  have HR2 : Hid _ := hr2
  clear hb2 hr2 HB HR ht hV hV2
  go_wp2
  refine bodyPost_ret (v := .agg (VI .u8 (List.replicate 16 0))) ?_ rfl ⟨rfl, HB2.out⟩
  exact results_cell_row (P := Try.prog) (fn := Try.f13) (p := 2) (ty := 36) rfl _ _ W.heap.size 36 (VI .u8 (List.replicate 16 0)) (0, 0) _ rfl HR2.out Try.underlying36 rfl HI.out
end Go.Proofs.Ytgfamcadgahiiaa
