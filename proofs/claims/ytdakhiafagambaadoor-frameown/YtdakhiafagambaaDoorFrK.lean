import Derived.Test.YtdakhiafagambaaDoorFrJ
import Derived.Test.YtdakhiafagambaaDoorFrD
/- stage 20: a step that feeds both Readers -/
namespace Go.Proofs.YtdakhiafagambaaDoor
set_option linter.unusedSimpArgs false
set_option linter.unusedVariables false
open Go.ChangeShapes Go.WideShapes Go.ChangeAt Go.RowKit Go.Pin
theorem RdB.chg {w w' : World} {v : Value} {C : List Int} {F : List Nat} (h : RdB w v C) (hc : Chg F w w') (hn : C ≠ [] → ∀ k, v.ownBlock = some k → k ∉ F) : RdB w' v C := by
  obtain ⟨a, c, e, h1, h2, h3⟩ := h
  refine ⟨a, c, e, h1, h2, ?_⟩
  rcases h3 with h3 | ⟨b, o, h3, h4⟩
  · exact .inl h3
  · by_cases h0 : C = []
    · exact .inl h0
    · have hl := range_lt h4 (by rw [List.length_map]; exact List.length_pos_iff.2 h0)
      refine .inr ⟨b, o, h3, fun j u hu => ?_⟩
      rw [World.cell?_of_block (a := ⟨b, o + j, none⟩) (hc.blk b hl (hn h0 b (by rw [e, h3]; rfl)))]
      exact h4 j u hu
/-- what stands beside the Readers while they are fed: the step's box, the roomy list, the bytes -/
structure FD (q gd : Nat) (vx : Value) (C M : List Int) (w : World) : Prop where
  bx : w.heap[q]? = some (.cells #[.int .i64 1, vx] 46)
  ro : w.heap[gd]? = some (.cells (VI .u8 M) 5)
  rx : RdB w vx C
theorem FD.lt {q gd : Nat} {vx : Value} {C M : List Int} {w : World} (h : FD q gd vx C M w) : q < w.heap.size ∧ gd < w.heap.size := ⟨(Array.getElem?_eq_some_iff.1 h.bx).1, (Array.getElem?_eq_some_iff.1 h.ro).1⟩
theorem FD.chg {q gd : Nat} {vx : Value} {C M : List Int} {w w' : World} {F : List Nat} (h : FD q gd vx C M w) (hc : Chg F w w') (h1 : q ∉ F) (h2 : gd ∉ F) (h3 : C ≠ [] → ∀ k, vx.ownBlock = some k → k ∉ F) : FD q gd vx C M w' :=
  ⟨(hc.blk q h.lt.1 h1).trans h.bx, (hc.blk gd h.lt.2 h2).trans h.ro, h.rx.chg hc h3⟩
theorem FD.below {q gd : Nat} {vx : Value} {C M : List Int} {w w' : World} (h : FD q gd vx C M w) (hb : Below w.heap.size w w') : FD q gd vx C M w' := h.chg (F := []) (Chg.of_below hb) (by simp) (by simp) (by simp)
theorem FD.c1 {q gd : Nat} {vx : Value} {C M : List Int} {w : World} (h : FD q gd vx C M w) : w.cell? ⟨q, 1, none⟩ = some vx := by rw [cell_of_row _ _ _ _ _ _ h.bx]; rfl
/-- the program's Reader has been fed, the document's not yet -/
structure PH (rep : Nat → List Int → List Nat → World → Prop) (gp g : Nat) (H H' : List Int) (vh : Value) (F : List Nat) (Y : World) : Prop where
  row : Y.heap[gp]? = some (.cells #[.pointer (some ⟨g, 0, none⟩), vh] 43)
  rp : rep g H' F Y
  rd : RdB Y vh H
  gn : gp ∉ F
  vn : ∀ k, vh.ownBlock = some k → k ≠ gp ∧ k ∉ F ∧ k < Y.heap.size
theorem PR.ph {rep : Nat → List Int → List Nat → World → Prop} {gp g : Nat} {H H' : List Int} {vh : Value} {F F' : List Nat} {Y Y' : World} (h : PR rep gp g H vh F Y) (hc : Chg F Y Y') (hr : rep g H' F' Y') (hF : ∀ k ∈ F', k ∈ F ∨ Y.heap.size ≤ k) : PH rep gp g H H' vh F' Y' :=
  ⟨(hc.blk gp h.lt h.gn).trans h.row, hr, h.rd.chg hc (fun _ k hk => (h.vn k hk).2.1), fun hm => by rcases hF gp hm with h1 | h1; exact h.gn h1; have := h.lt; omega, fun k hk => ⟨(h.vn k hk).1, fun hm => by rcases hF k hm with h1 | h1; exact (h.vn k hk).2.1 h1; have := (h.vn k hk).2.2; omega, Nat.lt_of_lt_of_le (h.vn k hk).2.2 hc.size⟩⟩
theorem PH.below {rep : Nat → List Int → List Nat → World → Prop} {gp g : Nat} {H H' : List Int} {vh : Value} {F : List Nat} {Y Y' : World} (hR : RdrC rep) (h : PH rep gp g H H' vh F Y) (hb : Below Y.heap.size Y Y') : PH rep gp g H H' vh F Y' :=
  ⟨(hb.block gp (Array.getElem?_eq_some_iff.1 h.row).1).trans h.row, hR.keep h.rp (fun k hk => hb.block k (hR.lt h.rp k hk)) hb.size, h.rd.below hb, h.gn, fun k hk => ⟨(h.vn k hk).1, (h.vn k hk).2.1, Nat.lt_of_lt_of_le (h.vn k hk).2.2 hb.size⟩⟩
theorem PH.c1 {rep : Nat → List Int → List Nat → World → Prop} {gp g : Nat} {H H' : List Int} {vh : Value} {F : List Nat} {Y : World} (h : PH rep gp g H H' vh F Y) : Y.cell? ⟨gp, 1, none⟩ = some vh := by rw [cell_of_row _ _ _ _ _ _ h.row]; rfl
/-- the document's Reader is another one now -/
theorem PH.store {rep : Nat → List Int → List Nat → World → Prop} {gp g : Nat} {H H' : List Int} {vh r : Value} {F : List Nat} {Y : World} (hR : RdrC rep) (h : PH rep gp g H H' vh F Y) (hr : RdB Y r H') (hB : Byb H') (hn : ∀ k, r.ownBlock = some k → k ≠ gp ∧ k ∉ F ∧ k < Y.heap.size) : PR rep gp g H' r F (Y.setCell ⟨gp, 1, none⟩ r) := by
  have ho : ∀ k, k ≠ gp → (Y.setCell ⟨gp, 1, none⟩ r).heap[k]? = Y.heap[k]? := fun k hk => heap_setCell_other _ _ _ _ hk
  exact ⟨by rw [heap_setCell_same Y _ _ _ _ _ h.row]; rfl, hR.keep h.rp (fun k hk => ho k (fun e => h.gn (by rw [← e]; exact hk))) (by rw [World.size_setCell]; exact Nat.le_refl _), hr.keep (fun k hk => ho k (hn k hk).1), hB, h.gn, fun k hk => ⟨(hn k hk).1, (hn k hk).2.1, by rw [World.size_setCell]; exact (hn k hk).2.2⟩⟩
set_option maxRecDepth 100000 in
set_option maxHeartbeats 8000000 in
theorem step_feed {rep : Nat → List Int → List Nat → World → Prop} (hR : RdrC rep) {gp g : Nat} {H C : List Int} {vh vx : Value} {F : List Nat} {Y : World} (h : PR rep gp g H vh F Y) (hx : RdY Y vx C) (hxn : C ≠ [] → ∀ k, vx.ownBlock = some k → k ≠ gp ∧ k ∉ F) (hl : H.length + C.length ≤ 1000000) (hc : C.length ≤ 300000) :
    Calls Tryd.prog 17 #[.pointer (some ⟨gp, 0, none⟩), .agg #[.int .i64 1, vx]] Y (StP rep gp g (H ++ C) vh F Y) := by
  obtain ⟨ax, cx, hvx, -⟩ := id hx.1
  obtain ⟨ah, ch, hvh, -⟩ := id h.rd
  subst hvx hvh
  have hb : Below Y.heap.size Y (Y.alloc (.cells #[.int .i64 1, .slice ax C.length cx] 46)) := (Below.refl _ _).alloc (Nat.le_refl _) _
  have hr := heap_alloc_new Y (.cells #[.int .i64 1, .slice ax C.length cx] 46)
  have h1 := h.below hR hb
  have hx1 := hx.1.below hb
  have HFL : Hid (∀ k ∈ F, k < Y.heap.size) := fun k hk => hR.lt h.rp k hk
  have HBy : Hid (Byb (H ++ C)) := fun x hx' => by rcases List.mem_append.1 hx' with h1 | h1; exact h.by_ x h1; exact hx.2 x h1
  have HGP : Hid (gp < Y.heap.size) := h.lt
  obtain ⟨q, hq⟩ : ∃ q, Y.heap.size = q := ⟨_, rfl⟩
  obtain ⟨nC, hnC⟩ : ∃ m, C.length = m := ⟨_, rfl⟩
  obtain ⟨nH, hnH⟩ : ∃ m, H.length = m := ⟨_, rfl⟩
  simp only [hnC, hnH] at hb hr h1 hx1 hl hc hxn ⊢
  obtain ⟨W0, hW0⟩ : ∃ W0, Y.alloc (.cells #[.int .i64 1, .slice ax nC cx] 46) = W0 := ⟨_, rfl⟩
  rw [hW0] at hb hr h1 hx1
  rw [hq] at hr
  have x0 : W0.cell? ⟨q, 0, none⟩ = some (.int .i64 1) := by rw [cell_of_row _ _ _ _ _ _ hr]; rfl
  have x1 : W0.cell? ⟨q, 1, none⟩ = some (.slice ax nC cx) := by rw [cell_of_row _ _ _ _ _ _ hr]; rfl
  have C1 := roomy_any W0 C ax nC cx hx1 hc
  obtain ⟨gd, hgd⟩ : ∃ gd, W0.heap.size = gd := ⟨_, rfl⟩
  rw [hgd] at C1
  have HL : Hid (nH + nC ≤ 1000000 ∧ nC ≤ 300000 ∧ C.length = nC ∧ H.length = nH ∧ Y.heap.size = q ∧ W0.heap.size = gd ∧ q < gd) := ⟨hl, hc, hnC, hnH, hq, hgd, by have := (Array.getElem?_eq_some_iff.1 hr).1; omega⟩
  have H0 : Hid (Below Y.heap.size Y W0 ∧ PR rep gp g H (.slice ah nH ch) F W0 ∧ W0.heap[q]? = some (.cells #[.int .i64 1, .slice ax nC cx] 46) ∧ RdB W0 (.slice ax nC cx) C) := ⟨hb, h1, hr, hx1⟩
  have HXN : Hid (C ≠ [] → ∀ k, (Value.slice ax nC cx).ownBlock = some k → k ≠ gp ∧ k ∉ F) := hxn
  have HR : Hid (RdrC rep) := hR
  unfold StP
  clear h hx hb hr h1 hx1 hl hc hnC hnH hgd hxn hR
  go_enter Tryd.func17, Tryd.ntmps17
  go_upto_region 4 with (go_at_call 9; refine C1.mono ?_; rintro e w1 ⟨rfl, hbb⟩; have H1 : Hid (PR rep gp g H (.slice ah nH ch) F w1 ∧ FD q gd (.slice ax nC cx) C (room C) w1 ∧ Below gd W0 w1) := ⟨H0.out.2.1.below HR.out (by rw [HL.out.2.2.2.2.2.1]; exact hbb.old), ⟨(hbb.old.block q (by have := HL.out; omega)).trans H0.out.2.2.1, hbb.row, H0.out.2.2.2.below (by rw [HL.out.2.2.2.2.2.1]; exact hbb.old)⟩, hbb.old⟩; clear hbb C1 x0 x1)
  clear hq hW0
  have rA := fun w => run_preF w gd nC (nC + 70) (nC + 70) (nC : Int) rfl (by omega) (by omega)
  obtain ⟨wd, hwd⟩ : ∃ wd, w1.drew = wd := ⟨_, rfl⟩
  have hbd : Below w1.heap.size w1 wd := by rw [← hwd]; exact (Below.refl _ _).drew
  have H2 : Hid (PR rep gp g H (.slice ah nH ch) F wd ∧ FD q gd (.slice ax nC cx) C (room C) wd ∧ Below gd W0 wd) := ⟨H1.out.1.below HR.out hbd, H1.out.2.1.below hbd, H1.out.2.2.trans (hbd.mono (by have := H1.out.2.1.lt; omega))⟩
  have st0 : wd.cell? ⟨gp, 0, none⟩ = some (.pointer (some ⟨g, 0, none⟩)) ∧ wd.cell? ⟨q, 1, none⟩ = some (.slice ax nC cx) := ⟨H2.out.1.c0, H2.out.2.1.c1⟩
  refine Go.Pin.wp_region_hcls (fun V => V.cell? ⟨gp, 0, none⟩ = some (.pointer (some ⟨g, 0, none⟩)) ∧ V.cell? ⟨q, 1, none⟩ = some (.slice ax nC cx)) 10 (by rfl) (by kernel_rfl) (by rw [hwd]; exact st0) ?_
  intro Sq fq hNq hRq hSq
  have s0 := fun x => (hRq x).1
  have s1 := fun x => (hRq x).2
  rw [hwd]
  clear hwd hbd
  refine Go.Pin.takeQ 0 (by simp only [List.getElem?_toArray, List.getElem?_cons_zero, List.getElem?_cons_succ]; exact rfl) (by kernel_rfl) (by kernel_rfl) (by kernel_rfl) (by rfl) (fun _ _ d _ _ h => by cases d <;> exact h) (st0) (hSq).out (by kernel_rfl) ?_
  intro Kq hKq
  go_big_quiet_op
  go_big_quiet_on
  refine takeV 1 (.pointer (some ⟨gp, 0, none⟩)) (by simp only [List.getElem?_toArray, List.getElem?_cons_zero, List.getElem?_cons_succ]; exact rfl) (by kernel_rfl) (by kernel_rfl) (by kernel_rfl) (fun _ _ d _ _ h => by cases d <;> exact h) (st0) (by kernel_rfl) (fun Yq hYq => by unfold execOp; go_simp) ?_
  simp only [Act.put, List.setIfInBounds_toArray, List.set_cons_zero, List.set_cons_succ]
  refine Go.Pin.takeQ 2 (by simp only [List.getElem?_toArray, List.getElem?_cons_zero, List.getElem?_cons_succ]; exact rfl) (by kernel_rfl) (by kernel_rfl) (by kernel_rfl) (by rfl) (fun _ _ d _ _ h => by cases d <;> exact h) (st0) (hSq).out (by kernel_rfl) ?_
  intro Kq hKq
  go_big_quiet_op
  go_big_quiet_on
  refine Go.Pin.takeQ 3 (by simp only [List.getElem?_toArray, List.getElem?_cons_zero, List.getElem?_cons_succ]; exact rfl) (by kernel_rfl) (by kernel_rfl) (by kernel_rfl) (by rfl) (fun _ _ d _ _ h => by cases d <;> exact h) (st0) (hSq).out (by kernel_rfl) ?_
  intro Kq hKq
  go_big_quiet_op
  go_big_quiet_on
  refine Go.Pin.takeQ 4 (by simp only [List.getElem?_toArray, List.getElem?_cons_zero, List.getElem?_cons_succ]; exact rfl) (by kernel_rfl) (by kernel_rfl) (by kernel_rfl) (by rfl) (fun _ _ d _ _ h => by cases d <;> exact h) (st0) (hSq).out (by kernel_rfl) ?_
  intro Kq hKq
  go_big_quiet_op
  go_big_quiet_on
  refine Go.Pin.takeQ 5 (by simp only [List.getElem?_toArray, List.getElem?_cons_zero, List.getElem?_cons_succ]; exact rfl) (by kernel_rfl) (by kernel_rfl) (by kernel_rfl) (by rfl) (fun _ _ d _ _ h => by cases d <;> exact h) (st0) (hSq).out (by kernel_rfl) ?_
  intro Kq hKq
  go_big_quiet_op
  go_big_quiet_on
  refine Go.Pin.takeQ 6 (by simp only [List.getElem?_toArray, List.getElem?_cons_zero, List.getElem?_cons_succ]; exact rfl) (by kernel_rfl) (by kernel_rfl) (by kernel_rfl) (by rfl) (fun _ _ d _ _ h => by cases d <;> exact h) (st0) (hSq).out (by kernel_rfl) ?_
  intro Kq hKq
  go_big_quiet_op
  go_big_quiet_on
  refine Go.Pin.takeQ 7 (by simp only [List.getElem?_toArray, List.getElem?_cons_zero, List.getElem?_cons_succ]; exact rfl) (by kernel_rfl) (by kernel_rfl) (by kernel_rfl) (by rfl) (fun _ _ d _ _ h => by cases d <;> exact h) (st0) (hSq).out (by kernel_rfl) ?_
  intro Kq hKq
  go_big_quiet_op
  go_big_quiet_on
  refine takeV 8 (.slice (some ⟨gd, 0, none⟩) nC (nC + 70)) (by simp only [List.getElem?_toArray, List.getElem?_cons_zero, List.getElem?_cons_succ]; exact rfl) (by kernel_rfl) (by kernel_rfl) (by kernel_rfl) (fun _ _ d _ _ h => by cases d <;> exact h) (st0) (by kernel_rfl) (fun Yq hYq => by unfold execOp; go_simp) ?_
  simp only [Act.put, List.setIfInBounds_toArray, List.set_cons_zero, List.set_cons_succ]
  have hrc : RdB wd (.slice (some ⟨gd, 0, none⟩) nC (nC + 70)) C := by
    have := row_rd (M := room C) (o := 0) (n := nC) (cap := nC + 70) H2.out.2.1.ro (by rw [room_len, HL.out.2.2.1]; omega) (by omega) (by have := HL.out; omega)
    rw [List.drop_zero, show (room C).take nC = C by rw [← HL.out.2.2.1]; exact room_take C] at this
    exact this
  have hgdF : gd ∉ F := fun hm => by have := HFL.out gd hm; have := HL.out; omega
  have hqF : q ∉ F := fun hm => by have := HFL.out q hm; have := HL.out; omega
  have CF := HR.out.feed H2.out.1.rp hrc (fun k hk hm => by have e : some gd = some k := hk; injection e with e; exact hgdF (by rw [e]; exact hm)) (by rw [HL.out.2.2.1, HL.out.2.2.2.1]; exact HL.out.1)
  refine Go.Pin.readyQ 9 (by simp only [List.getElem?_toArray, List.getElem?_cons_zero, List.getElem?_cons_succ]; exact rfl) (by kernel_rfl) (by kernel_rfl) ?_
  intro K hK
  refine wpCallV (d := some 29) (f := 19) (R := fun x w2 => x = .tuple #[] ∧ ∃ F1, PH rep gp g H (H ++ C) (.slice ah nH ch) F1 w2 ∧ FD q gd (.slice ax nC cx) C (room C) w2 ∧ Chg F wd w2 ∧ (∀ k ∈ F1, k ∈ F ∨ wd.heap.size ≤ k)) rfl rfl (args := #[.pointer (some ⟨g, 0, none⟩), .slice (some ⟨gd, 0, none⟩) nC (nC + 70)]) (by simp only [List.map_toArray, List.map_cons, List.map_nil]; rfl) (fun _ => rfl) (CF.mono (fun e w2 ⟨he, hc, F1, hr, hF1⟩ => ⟨_, he, rfl, F1, H2.out.1.ph hc hr hF1, H2.out.2.1.chg hc hqF hgdF (fun h0 k hk => (HXN.out h0 k hk).2), hc, hF1⟩)) ?_
  rintro x w2 ⟨rfl, F1, hph, hfd, hc2, hF1⟩
  have st2 : w2.cell? ⟨gp, 0, none⟩ = some (.pointer (some ⟨g, 0, none⟩)) ∧ w2.cell? ⟨q, 1, none⟩ = some (.slice ax nC cx) := ⟨by rw [cell_of_row _ _ _ _ _ _ hph.row]; rfl, hfd.c1⟩
  refine hK _ _ st2 ?_
  simp only [Act.put, List.setIfInBounds_toArray, List.set_cons_zero, List.set_cons_succ]
  clear hK K
  refine wpAnyH_done (by kernel_rfl) ?_ _
  have H3 : Hid (PH rep gp g H (H ++ C) (.slice ah nH ch) F1 w2 ∧ FD q gd (.slice ax nC cx) C (room C) w2 ∧ Chg F wd w2 ∧ (∀ k ∈ F1, k ∈ F ∨ wd.heap.size ≤ k)) := ⟨hph, hfd, hc2, hF1⟩
  have HQF : Hid (q ∉ F ∧ gd ∉ F) := ⟨hqF, hgdF⟩
  clear hph hfd hc2 hF1 st2 CF hrc hgdF hqF st0 s0 s1 hSq hRq hNq rA
  go_upto_region 5 with (fail)
  obtain ⟨we, hwe⟩ : ∃ we, w2.drew = we := ⟨_, rfl⟩
  have hbe : Below w2.heap.size w2 we := by rw [← hwe]; exact (Below.refl _ _).drew
  have H4 : Hid (PH rep gp g H (H ++ C) (.slice ah nH ch) F1 we ∧ FD q gd (.slice ax nC cx) C (room C) we ∧ Below w2.heap.size w2 we) := ⟨H3.out.1.below HR.out hbe, H3.out.2.1.below hbe, hbe⟩
  have st0 : we.cell? ⟨gp, 1, none⟩ = some (.slice ah nH ch) ∧ we.cell? ⟨q, 1, none⟩ = some (.slice ax nC cx) := ⟨H4.out.1.c1, H4.out.2.1.c1⟩
  refine Go.Pin.wp_region_L (fun V => V.cell? ⟨gp, 1, none⟩ = some (.slice ah nH ch) ∧ V.cell? ⟨q, 1, none⟩ = some (.slice ax nC cx)) 10 11 (by rfl) (by kernel_rfl) (by rw [hwe]; exact st0) ?_
  intro Sq fq hNq hRq hSq
  have s0 := fun x => (hRq x).1
  have s1 := fun x => (hRq x).2
  rw [hwe]
  clear hwe hbe
  refine Go.Pin.takeL 0 (by simp only [List.getElem?_toArray, List.getElem?_cons_zero, List.getElem?_cons_succ]; exact rfl) (by simp only [List.getElem?_toArray, List.getElem?_cons_zero, List.getElem?_cons_succ]; exact rfl) (by kernel_rfl) (by kernel_rfl) (by kernel_rfl) (by kernel_rfl) (by rfl) (fun _ _ d _ _ h => by cases d <;> exact h) (st0) (hSq).out (by kernel_rfl) ?_
  intro Kq hKq
  go_big_quiet_op
  go_big_quiet_on
  refine Go.Pin.takeL 1 (by simp only [List.getElem?_toArray, List.getElem?_cons_zero, List.getElem?_cons_succ]; exact rfl) (by simp only [List.getElem?_toArray, List.getElem?_cons_zero, List.getElem?_cons_succ]; exact rfl) (by kernel_rfl) (by kernel_rfl) (by kernel_rfl) (by kernel_rfl) (by rfl) (fun _ _ d _ _ h => by cases d <;> exact h) (st0) (hSq).out (by kernel_rfl) ?_
  intro Kq hKq
  go_big_quiet_op
  go_big_quiet_on
  refine takeLV 2 (.pointer (some ⟨gp, 0, none⟩)) (by simp only [List.getElem?_toArray, List.getElem?_cons_zero, List.getElem?_cons_succ]; exact rfl) (by simp only [List.getElem?_toArray, List.getElem?_cons_zero, List.getElem?_cons_succ]; exact rfl) (by kernel_rfl) (by kernel_rfl) (by kernel_rfl) (by kernel_rfl) (fun _ _ d _ _ h => by cases d <;> exact h) (st0) (by kernel_rfl) (fun Yq hYq => by unfold execOp; go_simp) ?_
  simp only [Act.put, List.setIfInBounds_toArray, List.set_cons_zero, List.set_cons_succ]
  refine Go.Pin.takeL 3 (by simp only [List.getElem?_toArray, List.getElem?_cons_zero, List.getElem?_cons_succ]; exact rfl) (by simp only [List.getElem?_toArray, List.getElem?_cons_zero, List.getElem?_cons_succ]; exact rfl) (by kernel_rfl) (by kernel_rfl) (by kernel_rfl) (by kernel_rfl) (by rfl) (fun _ _ d _ _ h => by cases d <;> exact h) (st0) (hSq).out (by kernel_rfl) ?_
  intro Kq hKq
  go_big_quiet_op
  go_big_quiet_on
  refine Go.Pin.takeL 4 (by simp only [List.getElem?_toArray, List.getElem?_cons_zero, List.getElem?_cons_succ]; exact rfl) (by simp only [List.getElem?_toArray, List.getElem?_cons_zero, List.getElem?_cons_succ]; exact rfl) (by kernel_rfl) (by kernel_rfl) (by kernel_rfl) (by kernel_rfl) (by rfl) (fun _ _ d _ _ h => by cases d <;> exact h) (st0) (hSq).out (by kernel_rfl) ?_
  intro Kq hKq
  go_big_quiet_op
  go_big_quiet_on
  refine Go.Pin.takeL 5 (by simp only [List.getElem?_toArray, List.getElem?_cons_zero, List.getElem?_cons_succ]; exact rfl) (by simp only [List.getElem?_toArray, List.getElem?_cons_zero, List.getElem?_cons_succ]; exact rfl) (by kernel_rfl) (by kernel_rfl) (by kernel_rfl) (by kernel_rfl) (by rfl) (fun _ _ d _ _ h => by cases d <;> exact h) (st0) (hSq).out (by kernel_rfl) ?_
  intro Kq hKq
  go_big_quiet_op
  go_big_quiet_on
  refine Go.Pin.takeL 6 (by simp only [List.getElem?_toArray, List.getElem?_cons_zero, List.getElem?_cons_succ]; exact rfl) (by simp only [List.getElem?_toArray, List.getElem?_cons_zero, List.getElem?_cons_succ]; exact rfl) (by kernel_rfl) (by kernel_rfl) (by kernel_rfl) (by kernel_rfl) (by rfl) (fun _ _ d _ _ h => by cases d <;> exact h) (st0) (hSq).out (by kernel_rfl) ?_
  intro Kq hKq
  go_big_quiet_op
  go_big_quiet_on
  have CR := rfeed_any H4.out.1.rd H4.out.2.1.rx (by rw [HL.out.2.2.1, HL.out.2.2.2.1]; exact HL.out.1)
  refine Go.Pin.readyL 7 (by simp only [List.getElem?_toArray, List.getElem?_cons_zero, List.getElem?_cons_succ]; exact rfl) (by kernel_rfl) (by kernel_rfl) ?_
  intro K hK
  refine wpCallV (d := some 37) (f := 23) (R := fun x w3 => ∃ a3 n3 k3, x = .agg #[.slice a3 n3 k3] ∧ RdB w3 (.slice a3 n3 k3) (H ++ C) ∧ (∀ k, (Value.slice a3 n3 k3).ownBlock = some k → we.heap.size ≤ k ∧ k < w3.heap.size) ∧ Below we.heap.size we w3) rfl rfl (args := #[.agg #[.slice ah nH ch], .slice ax nC cx]) (by simp only [List.map_toArray, List.map_cons, List.map_nil]; rfl) (fun _ => rfl) (CR.mono (fun e w3 ⟨v, he, ho, hb⟩ => by
    have hlen : (H ++ C).length = H.length + C.length := List.length_append
    rw [← hlen] at ho
    obtain ⟨a3, k3, rfl⟩ := own_slice' ho
    exact ⟨_, he, _, _, _, rfl, own_byt ho (by rw [hlen, HL.out.2.2.1, HL.out.2.2.2.1]; have := HL.out; omega), ho.lt, hb⟩)) ?_
  rintro x w3 ⟨a3, n3, k3, rfl, hr3, hn3, hb3⟩
  have hph3 := H4.out.1.below HR.out hb3
  have hfd3 := H4.out.2.1.below hb3
  have st3 : w3.cell? ⟨gp, 1, none⟩ = some (.slice ah nH ch) ∧ w3.cell? ⟨q, 1, none⟩ = some (.slice ax nC cx) := ⟨hph3.c1, hfd3.c1⟩
  refine hK _ _ (.inr st3) ?_
  simp only [Act.put, List.setIfInBounds_toArray, List.set_cons_zero, List.set_cons_succ]
  clear hK K
  have e3 := hph3.c1
  have f3 : w3.frozen? ⟨gp, 1, none⟩ = false := frozen_of_row _ _ _ _ _ hph3.row
  refine Go.Pin.readyL 8 (by simp only [List.getElem?_toArray, List.getElem?_cons_zero, List.getElem?_cons_succ]; exact rfl) (by kernel_rfl) (by kernel_rfl) ?_
  intro K hK
  refine wpRun (d := some 38) (v := .pointer (some ⟨gp, 0, none⟩)) (w' := w3) rfl (by unfold execOp; go_simp) (hK _ _ (.inr st3) ?_)
  simp only [Act.put, List.setIfInBounds_toArray, List.set_cons_zero, List.set_cons_succ]
  clear hK K
  refine Go.Pin.takeL 9 (by simp only [List.getElem?_toArray, List.getElem?_cons_zero, List.getElem?_cons_succ]; exact rfl) (by simp only [List.getElem?_toArray, List.getElem?_cons_zero, List.getElem?_cons_succ]; exact rfl) (by kernel_rfl) (by kernel_rfl) (by kernel_rfl) (by kernel_rfl) (by rfl) (fun _ _ d _ _ h => by cases d <;> exact h) (st3) (hSq).out (by kernel_rfl) ?_
  intro Kq hKq
  go_big_quiet_op
  go_big_quiet_on
  refine Go.Pin.readyL 10 (by simp only [List.getElem?_toArray, List.getElem?_cons_zero, List.getElem?_cons_succ]; exact rfl) (by kernel_rfl) (by kernel_rfl) ?_
  intro K hK
  unfold Oper.wp execOp
  go_simp
  refine hK _ _ (.inl rfl) ?_
  clear hK K
  refine Go.Pin.wpL_done (by kernel_rfl) ?_
  have h5 := hph3.store HR.out hr3 HBy.out (fun k hk => by
    have h1 := hn3 k hk
    have h2 := (Array.getElem?_eq_some_iff.1 H4.out.1.row).1
    exact ⟨by omega, fun hm => by have := HR.out.lt H4.out.1.rp k hm; omega, h1.2⟩)
  have hfd5 := hfd3.chg (chg_set w3 gp 1 (.slice a3 n3 k3)) (by have := HL.out; have := HGP.out; simp; omega) (by have := HL.out; have := HGP.out; simp; omega) (fun h0 k hk hm => (HXN.out h0 k hk).1 (List.mem_singleton.1 hm))
  have hc5 : Chg (gp :: F) wd (w3.setCell ⟨gp, 1, none⟩ (.slice a3 n3 k3)) := by
    have c1 : Chg (gp :: F) wd w2 := ⟨H3.out.2.2.1.os, H3.out.2.2.1.tape, H3.out.2.2.1.output, H3.out.2.2.1.size, fun k hk hn => H3.out.2.2.1.blk k hk (fun hm => hn (List.mem_cons_of_mem _ hm))⟩
    have c2 := c1.trans (Chg.of_below (F := []) H4.out.2.2) (fun k hk => nomatch hk)
    have c3 := c2.trans (Chg.of_below (F := []) hb3) (fun k hk => nomatch hk)
    exact c3.trans (chg_set w3 gp 1 _) (fun k hk => .inl (by rw [List.mem_singleton.1 hk]; exact List.mem_cons_self))
  obtain ⟨w5, hw5⟩ : ∃ w5, w3.setCell ⟨gp, 1, none⟩ (.slice a3 n3 k3) = w5 := ⟨_, rfl⟩
  rw [hw5] at h5 hfd5 hc5
  simp only [hw5]
  have H5 : Hid (PR rep gp g (H ++ C) (.slice a3 n3 k3) F1 w5 ∧ FD q gd (.slice ax nC cx) C (room C) w5 ∧ Chg (gp :: F) wd w5 ∧ (∀ k, (Value.slice a3 n3 k3).ownBlock = some k → gd < k)) := ⟨h5, hfd5, hc5, fun k hk => by have h1 := hn3 k hk; have h2 := H4.out.2.1.lt; omega⟩
  have HU0 : Hid (Below Y.heap.size Y wd ∧ (∀ k ∈ F1, k ∈ F ∨ Y.heap.size ≤ k) ∧ gd ∉ F1 ∧ gd ≠ gp ∧ (∀ k, (Value.slice a3 n3 k3).ownBlock = some k → k ≠ gd)) := by
    have l0 := HL.out
    have g0 := HGP.out
    have lw := H2.out.2.1.lt
    have hby : Below Y.heap.size Y wd := H0.out.1.trans (H2.out.2.2.mono (by have := H0.out.1.size; omega))
    refine ⟨hby, fun k hk => ?_, fun hm => ?_, by omega, fun k hk => by have h1 := hn3 k hk; have h2 := H4.out.2.1.lt; omega⟩
    · rcases H3.out.2.2.2 k hk with h1 | h1
      · exact .inl h1
      · exact .inr (by have := hby.size; omega)
    · rcases H3.out.2.2.2 gd hm with h1 | h1
      · have := HFL.out gd h1; omega
      · omega
  clear h5 hfd5 hc5 hw5 hph3 hfd3 st3 e3 f3 hr3 hn3 hb3 CR st0 s0 s1 hSq hRq hNq
  have x1 := H5.out.2.1.c1
  have CT := stands_any w5 C (some ⟨gd, 0, none⟩) ax nC (nC + 70) (nC + 70) cx (by
    have := row_rd (M := room C) (o := 0) (n := nC + 70) (cap := nC + 70) H5.out.2.1.ro (by rw [room_len, HL.out.2.2.1]; omega) (Nat.le_refl _) (by have := HL.out; omega)
    rw [List.drop_zero, List.take_of_length_le (by rw [room_len, HL.out.2.2.1]; exact Nat.le_refl _)] at this
    exact this) H5.out.2.1.rx HL.out.2.1
  go_upto_region 7 with (go_at_call 14; refine CT.mono ?_; rintro e w6 ⟨rfl, hb6⟩; have H6 : Hid (PR rep gp g (H ++ C) (.slice a3 n3 k3) F1 w6 ∧ FD q gd (.slice ax nC cx) C (room C) w6 ∧ Chg (gp :: F) wd w6) := ⟨H5.out.1.below HR.out hb6, H5.out.2.1.below hb6, H5.out.2.2.1.trans (Chg.of_below (F := []) hb6) (fun k hk => nomatch hk)⟩; clear hb6 CT x1)
  have HVN : Hid (∀ k, (Value.slice a3 n3 k3).ownBlock = some k → Y.heap.size ≤ k) := fun k hk => by have h1 := H5.out.2.2.2 k hk; have := HL.out; omega
  clear H5 H4 H3 HQF
  have HU : Hid (Below Y.heap.size Y wd ∧ (∀ k ∈ F1, k ∈ F ∨ Y.heap.size ≤ k) ∧ gd ∉ F1 ∧ gd ≠ gp ∧ (∀ k, (Value.slice a3 n3 k3).ownBlock = some k → k ≠ gd)) := HU0.out
  have hc6 : Chg (gp :: F) Y w6 := (Chg.of_below HU.out.1).trans H6.out.2.2 (fun k hk => .inl hk)
  obtain ⟨N, hN⟩ : ∃ N, nC + 70 = N := ⟨_, rfl⟩
  have HN : Hid (nC + 70 = N ∧ N ≤ 300070) := ⟨hN, by have := HL.out; omega⟩
  rw [hN]
  have H7 : Hid (PR rep gp g (H ++ C) (.slice a3 n3 k3) F1 w6 ∧ Chg (gp :: F) Y w6 ∧ ∃ M : List Int, M.length = N ∧ w6.heap[gd]? = some (.cells (VI .u8 M) 5)) := ⟨H6.out.1, hc6, room C, by rw [room_len, HL.out.2.2.1]; exact hN, H6.out.2.1.ro⟩
  have HGD : Hid (Y.heap.size ≤ gd) := by have := HL.out; show Y.heap.size ≤ gd; omega
  clear hc6 hN H6 H1 H2
  go_wp2
  go_loopw [7] (fun v7 wr => ∃ i : Nat, i ≤ N ∧ v7 = .int .i64 i ∧ PR rep gp g (H ++ C) (.slice a3 n3 k3) F1 wr ∧ Chg (gp :: F) Y wr ∧ ∃ M : List Int, M.length = N ∧ wr.heap[gd]? = some (.cells (VI .u8 M) 5)) (fun v _ => N - (intOf v).toNat)
  case atStart => exact ⟨0, Nat.zero_le _, rfl, H7.out⟩
  case round =>
    obtain ⟨i, hi, rfl, hp, hc, M, hM, hro⟩ := hrel
    by_cases hlt : i < N
    · have b1 : (i : Int) < (N : Int) := by omega
      have b0 : (0 : Int) ≤ (i : Int) := by omega
      have x1 : wr.cell? ⟨gd, i, none⟩ = some (.int .u8 (M.getD i 0)) := by rw [cell_of_row _ _ _ _ _ _ hro, VI_at _ _ _ (by omega)]
      have f1 : wr.frozen? ⟨gd, i, none⟩ = false := frozen_of_row _ _ _ _ _ hro
      have ho : ∀ k, k ≠ gd → (wr.setCell ⟨gd, i, none⟩ (.int .u8 153)).heap[k]? = wr.heap[k]? := fun k hk => heap_setCell_other _ _ _ _ hk
      have H8 : Hid (PR rep gp g (H ++ C) (.slice a3 n3 k3) F1 (wr.setCell ⟨gd, i, none⟩ (.int .u8 153)) ∧ Chg (gp :: F) Y (wr.setCell ⟨gd, i, none⟩ (.int .u8 153)) ∧ ∃ M : List Int, M.length = N ∧ (wr.setCell ⟨gd, i, none⟩ (.int .u8 153)).heap[gd]? = some (.cells (VI .u8 M) 5)) := by
        refine ⟨hp.keep HR.out (fun k hk => ho k (fun e => ?_)) (by rw [World.size_setCell]; exact Nat.le_refl _), hc.trans (chg_set wr gd i _) (fun k hk => .inr (by rw [List.mem_singleton.1 hk]; exact HGD.out)), M.set i 153, by rw [List.length_set]; exact hM, by rw [heap_setCell_same wr _ _ _ _ _ hro]; simp [VI, List.map_set]⟩
        rcases hk with hk | hk | hk
        · exact HU.out.2.2.2.1 (e.symm.trans hk)
        · exact HU.out.2.2.1 (by rw [← e]; exact hk)
        · exact HU.out.2.2.2.2 k hk e
      have HLT : Hid (i < N) := hlt
      obtain ⟨W8, hW8⟩ : ∃ W8, wr.setCell ⟨gd, i, none⟩ (.int .u8 153) = W8 := ⟨_, rfl⟩
      rw [hW8] at H8
      clear hp hc hM hro ho hi hlt
      go_wp2
      exact ⟨⟨i + 1, HLT.out, congrArg (Value.int .i64) (wrapS HLT.out (by have := HN.out; omega)), H8.out⟩, measS HLT.out (by have := HN.out; omega)⟩
    · have b1 : ¬ (i : Int) < (N : Int) := by omega
      have H9 : Hid (PR rep gp g (H ++ C) (.slice a3 n3 k3) F1 wr ∧ Chg (gp :: F) Y wr) := ⟨hp, hc⟩
      clear hp hc hM hro hi hlt
      go_wp2
      go_ret
      exact ⟨rfl, _, F1, H9.out.1, H9.out.2, HU.out.2.1, fun k hk => .inr (HVN.out k hk)⟩
/-- a step of a script -/
theorem step_any {rep : Nat → List Int → List Nat → World → Prop} (hR : RdrC rep) {gp g : Nat} {H C : List Int} {vh vx : Value} {F : List Nat} {Y : World} (k : Int) (h : PR rep gp g H vh F Y) (hx : RdY Y vx C) (hxn : C ≠ [] → ∀ k, vx.ownBlock = some k → k ≠ gp ∧ k ∉ F) (hl : H.length + C.length ≤ 1000000) (hc : C.length ≤ 300000) :
    Calls Tryd.prog 17 #[.pointer (some ⟨gp, 0, none⟩), .agg #[.int .i64 k, vx]] Y (StP rep gp g (stpH H k C) vh F Y) := by
  obtain ⟨a, c, e, -⟩ := id hx.1
  by_cases h1 : k = 1
  · subst h1
    rw [stpH, if_pos rfl]
    exact step_feed hR h hx hxn hl hc
  · by_cases h2 : k = 2
    · subst h2
      rw [stpH, if_neg (by decide), if_pos rfl]
      exact step_next hR h (by omega) e
    · rw [stpH, if_neg h1, if_neg h2]
      exact step_held hR k h1 h2 h (by omega) e
theorem stpH_len (H : List Int) (k : Int) (C : List Int) : (stpH H k C).length ≤ H.length + C.length := by
  unfold stpH
  split
  · rw [List.length_append]; exact Nat.le_refl _
  · split
    · cases h : nxt H with
      | none => simp
      | some x =>
        obtain ⟨m, r⟩ := x
        have := (nxt_len h).2.1
        simp only
        omega
    · omega
end Go.Proofs.YtdakhiafagambaaDoor
