import Derived.Test.YtmlcgcmoioekpaaGreatDoorMpbt
namespace Go.Proofs.YtmlcgcmoioekpaaGreatDoor
set_option linter.unusedSimpArgs false
set_option linter.unusedVariables false
set_option maxRecDepth 100000
open Go.ChangeShapes Go.WideShapes Go.ChangeAt Go.RowKit Go.Pin Go.Pat Go.Deep
/-- the boxes that stay through the rounds -/
structure PR (q lim : Nat) (W0 : World) (gt gr : Nat) (m i r : Int) (vw : Value) (w : World) : Prop where
  old : Below q W0 w
  hm : w.heap[q]? = some (.cells #[.int .i64 m] 3)
  hi : w.heap[q + 1]? = some (.cells #[.int .i64 i] 3)
  hw : w.heap[lim]? = some (.cells #[vw] 47)
  ht : w.heap[gt]? = some (.cells #[.func (.func 55) #[] #[]] 50)
  hr : w.heap[gr]? = some (.cells #[.int .i64 r] 3)
  o : q + 2 ≤ lim ∧ lim < gt ∧ gt < gr
  rq : FtQ (fun b => q + 2 ≤ b ∧ b < lim) w vw tab
section
variable {q lim gt gr gn gk : Nat} {W0 w w' : World} {m i r n : Int} {ok : Bool} {vw : Value}
theorem PR.lt (h : PR q lim W0 gt gr m i r vw w) : gr < w.heap.size := (Array.getElem?_eq_some_iff.1 h.hr).1
theorem PR.below (h : PR q lim W0 gt gr m i r vw w) (hb : Below w.heap.size w w') : PR q lim W0 gt gr m i r vw w' := by
  have hl := h.lt
  have ho := h.o
  exact ⟨h.old.trans (hb.mono (by omega)), (hb.block _ (by omega)).trans h.hm, (hb.block _ (by omega)).trans h.hi, (hb.block _ (by omega)).trans h.hw, (hb.block _ (by omega)).trans h.ht, (hb.block _ (by omega)).trans h.hr, ho, h.rq.keep (fun b hb' => hb.block b (by omega))⟩
theorem PA.pr (h : PA q lim W0 gt gr gn gk m i r n ok vw w) : PR q lim W0 gt gr m i r vw w := ⟨h.old, h.hm, h.hi, h.hw, h.ht, h.hr, ⟨h.o.1, h.o.2.1, h.o.2.2.1⟩, h.rq⟩
/-- the next round's own counter -/
theorem PR.next (h : PR q lim W0 gt gr m i r vw w) (r' : Int) : PR q lim W0 gt w.heap.size m i r' vw (w.alloc (.cells #[.int .i64 r'] 3)) := by
  have hb : Below w.heap.size w (w.alloc (.cells #[.int .i64 r'] 3)) := (Below.refl _ _).alloc (Nat.le_refl _) _
  have h1 := h.below hb
  have ho := h.o
  have hl := h.lt
  exact ⟨h1.old, h1.hm, h1.hi, h1.hw, h1.ht, heap_alloc_new _ _, ⟨ho.1, ho.2.1, by omega⟩, h1.rq⟩
theorem PR.setR (h : PR q lim W0 gt gr m i r vw w) (r' : Int) : PR q lim W0 gt gr m i r' vw (w.setCell ⟨gr, 0, none⟩ (.int .i64 r')) := by
  have ho := h.o
  have hs : ∀ b, b ≠ gr → (w.setCell ⟨gr, 0, none⟩ (.int .i64 r')).heap[b]? = w.heap[b]? := fun b hb => heap_setCell_other _ _ _ _ hb
  exact ⟨h.old.setCell (p := ⟨gr, 0, none⟩) (by show q ≤ gr; omega) _, (hs _ (by omega)).trans h.hm, (hs _ (by omega)).trans h.hi, (hs _ (by omega)).trans h.hw, (hs _ (by omega)).trans h.ht, by rw [Go.heap_setCell_same _ _ _ _ _ _ h.hr]; rfl, ho, h.rq.keep (fun b hb => hs b (by omega))⟩
end
def rdM (v : Value) (y : World) : Nat := match v with
  | .pointer (some a) => (match y.cell? a with | some x => (intOf x).toNat | none => 0)
  | _ => 0
theorem rdM_at {g : Nat} {y : World} {r : Nat} (h : y.heap[g]? = some (.cells #[.int .i64 r] 3)) : rdM (.pointer (some ⟨g, 0, none⟩)) y = r := by
  unfold rdM
  simp only [one_cell h]
  rfl
set_option maxHeartbeats 8000000 in
theorem alls_walk {ea : Int → Addr} (m i : Int) (W : World) (hE : Errs ea W) :
    Calls Tryz.prog 7 #[.int .i64 m, .int .i64 i] W fun e w' => e = .returned (.bool true) ∧ Below W.heap.size W w' := by
  obtain ⟨q, hq⟩ : ∃ q, W.heap.size = q := ⟨_, rfl⟩
  have HE : Hid (∀ y, Below q W y → Errs ea y) := fun y hy => hE.below (by rw [hq]; exact hy)
  have CA := all_any ((W.alloc (.cells #[.int .i64 m] 3)).alloc (.cells #[.int .i64 i] 3))
  have hs2 : ((W.alloc (.cells #[.int .i64 m] 3)).alloc (.cells #[.int .i64 i] 3)).heap.size = q + 2 := by simp only [size_alloc]; omega
  have ha1 : Below q W (W.alloc (.cells #[.int .i64 m] 3)) := (Below.refl _ _).alloc (by omega) _
  have ha2 : Below q W ((W.alloc (.cells #[.int .i64 m] 3)).alloc (.cells #[.int .i64 i] 3)) := ha1.alloc (by rw [size_alloc]; omega) _
  have hr1 : ((W.alloc (.cells #[.int .i64 m] 3)).alloc (.cells #[.int .i64 i] 3)).heap[q]? = some (.cells #[.int .i64 m] 3) := by
    rw [← hq]
    refine (Below.heap_alloc _ _ _ (by rw [size_alloc]; omega)).trans (heap_alloc_new _ _)
  have hr2 : ((W.alloc (.cells #[.int .i64 m] 3)).alloc (.cells #[.int .i64 i] 3)).heap[q + 1]? = some (.cells #[.int .i64 i] 3) := by
    have := heap_alloc_new (W.alloc (.cells #[.int .i64 m] 3)) (.cells #[.int .i64 i] 3)
    rw [size_alloc, hq] at this
    exact this
  have hsz1 : (W.alloc (.cells #[.int .i64 m] 3)).heap.size = q + 1 := by rw [size_alloc]; omega
  obtain ⟨W2, hW2⟩ : ∃ W2, (W.alloc (.cells #[.int .i64 m] 3)).alloc (.cells #[.int .i64 i] 3) = W2 := ⟨_, rfl⟩
  rw [hW2] at CA ha2 hr1 hr2 hs2
  have H2 : Hid (Below q W W2 ∧ W2.heap[q]? = some (.cells #[.int .i64 m] 3) ∧ W2.heap[q + 1]? = some (.cells #[.int .i64 i] 3) ∧ W2.heap.size = q + 2) := ⟨ha2, hr1, hr2, hs2⟩
  rw [hs2] at CA
  rw [hq]
  clear ha1 ha2 hr1 hr2 hs2 hE
  go_enter Tryz.func7, Tryz.ntmps7
  go_upto_region 1 with (fail)
  clear hW2 hsz1
  go_upto_region 2 with (go_at_call 23; refine CA.mono ?_; rintro e w3 ⟨v, rfl, hrq, hb⟩; have hrq' := hrq; obtain ⟨a, cw, rfl, h3⟩ := hrq'; obtain ⟨bw, ow, _, _, _, _, rfl, _⟩ := h3 0 (by decide); have H3 : Hid (RdQ (q + 2) w3 (.slice (some ⟨bw, ow, none⟩) 38 cw) tab ∧ Below (q + 2) W2 w3) := ⟨hrq, hb⟩; clear h3 hrq hb CA)
  have hb3 : Below q W w3 := H2.out.1.trans (H3.out.2.mono (by omega))
  have hm3 := (H3.out.2.block q (by omega)).trans H2.out.2.1
  have hi3 := (H3.out.2.block (q + 1) (by omega)).trans H2.out.2.2.1
  have hl3 : q + 2 ≤ w3.heap.size := by have := H3.out.2.size; have := H2.out.2.2.2; omega
  have hal : Below w3.heap.size w3 (w3.alloc (.cells #[.slice (some ⟨bw, ow, none⟩) 38 cw] 47)) := (Below.refl _ _).alloc (Nat.le_refl _) _
  have hw4 : (w3.alloc (.cells #[.slice (some ⟨bw, ow, none⟩) 38 cw] 47)).heap[w3.heap.size]? = some (.cells #[.slice (some ⟨bw, ow, none⟩) 38 cw] 47) := heap_alloc_new _ _
  have hq4 : FtQ (fun b => q + 2 ≤ b ∧ b < w3.heap.size) (w3.alloc (.cells #[.slice (some ⟨bw, ow, none⟩) 38 cw] 47)) (.slice (some ⟨bw, ow, none⟩) 38 cw) tab := FtQ.keep H3.out.1 (fun b hb => hal.block b hb.2)
  have hs4 : (w3.alloc (.cells #[.slice (some ⟨bw, ow, none⟩) 38 cw] 47)).heap.size = w3.heap.size + 1 := size_alloc _ _
  have hb4 : Below q W (w3.alloc (.cells #[.slice (some ⟨bw, ow, none⟩) 38 cw] 47)) := hb3.trans (hal.mono (by omega))
  have hm4 := (hal.block q (by omega)).trans hm3
  have hi4 := (hal.block (q + 1) (by omega)).trans hi3
  obtain ⟨lim, hlim⟩ : ∃ lim, w3.heap.size = lim := ⟨_, rfl⟩
  obtain ⟨W4, hW4⟩ : ∃ W4, w3.alloc (.cells #[.slice (some ⟨bw, ow, none⟩) 38 cw] 47) = W4 := ⟨_, rfl⟩
  have htl : tab.length = 38 := rfl
  simp only [htl]
  simp only [hlim, hW4] at hw4 hq4 hs4 hb4 hm4 hi4 hl3 ⊢
  have H4 : Hid (Below q W W4 ∧ W4.heap[q]? = some (.cells #[.int .i64 m] 3) ∧ W4.heap[q + 1]? = some (.cells #[.int .i64 i] 3) ∧ W4.heap[lim]? = some (.cells #[.slice (some ⟨bw, ow, none⟩) 38 cw] 47) ∧ FtQ (fun b => q + 2 ≤ b ∧ b < lim) W4 (.slice (some ⟨bw, ow, none⟩) 38 cw) tab ∧ W4.heap.size = lim + 1 ∧ q + 2 ≤ lim) := ⟨hb4, hm4, hi4, hw4, hq4, hs4, hl3⟩
  clear hal hw4 hq4 hs4 hb4 hm4 hi4 hl3 hlim hW4 hb3 hm3 hi3 htl
  have CA := all0_any W4
  have hsf : ∀ (w : World) (a : Addr) (md : Mode), (store a (.func (.func 55) #[] #[]) md).run Tryz.prog w = stored Tryz.prog w a (.func (.func 55) #[] #[]) md := fun w a md => run_store Tryz.prog w a _ md rfl
  go_upto_region 3 with (go_at_call 24; refine CA.mono ?_; rintro e wa ⟨rfl, hwa⟩; obtain rfl : W4 = wa := hwa.symm; clear CA)
  clear hsf
  have hal : Below W4.heap.size W4 (W4.alloc (.cells #[.func (.func 55) #[] #[]] 50)) := (Below.refl _ _).alloc (Nat.le_refl _) _
  have hsz := H4.out.2.2.2.2.2.1
  have hql := H4.out.2.2.2.2.2.2
  have ht5 : (W4.alloc (.cells #[.func (.func 55) #[] #[]] 50)).heap[W4.heap.size]? = some (.cells #[.func (.func 55) #[] #[]] 50) := heap_alloc_new _ _
  have hb5 := H4.out.1.trans (hal.mono (by omega))
  have hm5 := (hal.block q (by omega)).trans H4.out.2.1
  have hi5 := (hal.block (q + 1) (by omega)).trans H4.out.2.2.1
  have hw5 := (hal.block lim (by omega)).trans H4.out.2.2.2.1
  have hq5 := H4.out.2.2.2.2.1.keep (fun b hb => hal.block b (by omega))
  have hs5 : (W4.alloc (.cells #[.func (.func 55) #[] #[]] 50)).heap.size = lim + 2 := by rw [size_alloc]; omega
  rw [hsz] at ht5 ⊢
  obtain ⟨W5, hW5⟩ : ∃ W5, W4.alloc (.cells #[.func (.func 55) #[] #[]] 50) = W5 := ⟨_, rfl⟩
  rw [hW5] at ht5 hb5 hm5 hi5 hw5 hq5 hs5 ⊢
  have H5 : Hid (Below q W W5 ∧ W5.heap[q]? = some (.cells #[.int .i64 m] 3) ∧ W5.heap[q + 1]? = some (.cells #[.int .i64 i] 3) ∧ W5.heap[lim]? = some (.cells #[.slice (some ⟨bw, ow, none⟩) 38 cw] 47) ∧ W5.heap[lim + 1]? = some (.cells #[.func (.func 55) #[] #[]] 50) ∧ FtQ (fun b => q + 2 ≤ b ∧ b < lim) W5 (.slice (some ⟨bw, ow, none⟩) 38 cw) tab ∧ W5.heap.size = lim + 2 ∧ q + 2 ≤ lim) := ⟨hb5, hm5, hi5, hw5, ht5, hq5, hs5, hql⟩
  have f0 := one_cell ht5
  have hnf : ∀ (w : World), (binOp BinOp.eql 50 (.func (.func 55) #[] #[]) Value.nilFunc).run Tryz.prog w = .ok (.bool false) w := fun _ => rfl
  clear hal hsz ht5 hb5 hm5 hi5 hw5 hq5 hs5 hW5 H4 hql
  go_upto_region 5 with (fail)
  clear hnf f0
  go_wp2
  have hb6 : Below W5.heap.size W5 (W5.alloc (.cells #[.int .i64 0] 3)) := (Below.refl _ _).alloc (Nat.le_refl _) _
  have hP6 : PR q lim W (lim + 1) W5.heap.size m i ((0 : Nat) : Int) (.slice (some ⟨bw, ow, none⟩) 38 cw) (W5.alloc (.cells #[.int .i64 0] 3)) := by
    have h := H5.out
    exact ⟨h.1.trans (hb6.mono (by omega)), (hb6.block _ (by omega)).trans h.2.1, (hb6.block _ (by omega)).trans h.2.2.1, (hb6.block _ (by omega)).trans h.2.2.2.1, (hb6.block _ (by omega)).trans h.2.2.2.2.1, heap_alloc_new _ _, ⟨h.2.2.2.2.2.2.2, by omega, by omega⟩, h.2.2.2.2.2.1.keep (fun b hb => hb6.block b (by omega))⟩
  obtain ⟨W6, hW6⟩ : ∃ W6, W5.alloc (.cells #[.int .i64 0] 3) = W6 := ⟨_, rfl⟩
  obtain ⟨g6, hg6⟩ : ∃ g6, W5.heap.size = g6 := ⟨_, rfl⟩
  simp only [hW6, hg6] at hP6 ⊢
  have H6 : Hid (PR q lim W (lim + 1) g6 m i ((0 : Nat) : Int) (.slice (some ⟨bw, ow, none⟩) 38 cw) W6) := hP6
  clear hP6 hb6 hW6 hg6 H5
  go_loopw [7] (fun v7 y => ∃ (gr r : Nat), r ≤ 3 ∧ v7 = .pointer (some ⟨gr, 0, none⟩) ∧ PR q lim W (lim + 1) gr m i (r : Int) (.slice (some ⟨bw, ow, none⟩) 38 cw) y) (fun v y => 3 - rdM v y)
  case atStart => exact ⟨g6, 0, by omega, rfl, H6.out⟩
  case round =>
    obtain ⟨gr, r, hr3, rfl, hPR⟩ := hrel
    have HR3 : Hid (r ≤ 3) := hr3
    have HPR : Hid (PR q lim W (lim + 1) gr m i (r : Int) (.slice (some ⟨bw, ow, none⟩) 38 cw) wr) := hPR
    have c0 := one_cell hPR.hr
    clear hPR
    by_cases hlt : r < 3
    · have b1 : (r : Int) < 3 := by omega
      have HRL : Hid (r < 3) := hlt
      clear hlt hr3
      go_upto_region 10 with (fail)
      clear c0 b1
      have ha1 : Below wr.heap.size wr (wr.alloc (.cells #[.int .i64 0] 3)) := (Below.refl _ _).alloc (Nat.le_refl _) _
      have ha2 : Below (wr.heap.size + 1) (wr.alloc (.cells #[.int .i64 0] 3)) ((wr.alloc (.cells #[.int .i64 0] 3)).alloc (.cells #[.bool true] 4)) := (Below.refl _ _).alloc (by rw [size_alloc]; omega) _
      have hP9 : PA q lim W (lim + 1) gr wr.heap.size (wr.heap.size + 1) m i (r : Int) ((0 : Nat) : Int) true (.slice (some ⟨bw, ow, none⟩) 38 cw) ((wr.alloc (.cells #[.int .i64 0] 3)).alloc (.cells #[.bool true] 4)) := by
        have h := (HPR.out.below ha1).below (ha2.mono (by rw [size_alloc]; omega))
        have hl := HPR.out.lt
        refine ⟨h.old, h.hm, h.hi, h.hw, h.ht, h.hr, ?_, ?_, ⟨h.o.1, h.o.2.1, h.o.2.2, hl, by omega⟩, h.rq⟩
        · exact (ha2.block _ (by omega)).trans (heap_alloc_new _ _)
        · have := heap_alloc_new (wr.alloc (.cells #[.int .i64 0] 3)) (.cells #[.bool true] 4)
          rw [size_alloc] at this
          exact this
      obtain ⟨gn, hgn⟩ : ∃ gn, wr.heap.size = gn := ⟨_, rfl⟩
      obtain ⟨w9, hw9⟩ : ∃ w9, (wr.alloc (.cells #[.int .i64 0] 3)).alloc (.cells #[.bool true] 4) = w9 := ⟨_, rfl⟩
      simp only [hgn, hw9] at hP9 ⊢
      clear ha1 ha2 hgn hw9
      have f0 := one_cell hP9.ht
      have hgl : gn + 1 < w9.heap.size := hP9.lt
      have CI := all1_any (ea := ea) w9.heap.size 25 #[.pointer (some ⟨gn + 1, 0, none⟩), .pointer (some ⟨gn, 0, none⟩), .pointer (some ⟨lim, 0, none⟩), .pointer (some ⟨gr, 0, none⟩), .pointer (some ⟨lim + 1, 0, none⟩), .pointer (some ⟨q + 1, 0, none⟩), .pointer (some ⟨q, 0, none⟩)] (fun k y => PA q lim W (lim + 1) gr gn (gn + 1) m i (r : Int) (k : Int) true (.slice (some ⟨bw, ow, none⟩) 38 cw) y) (fun y => PA q lim W (lim + 1) gr gn (gn + 1) m i (r : Int) m true (.slice (some ⟨bw, ow, none⟩) 38 cw) y ∧ ¬ (r : Int) = 2) w9 rfl (fun _ _ => rfl) ?_ (fun k y hy => HE.out _ hy.old) hP9
      rotate_left
      · intro k W1 Wk v0 v1 vl hk hI hb hft
        refine (pout_any (ea := ea) HE.out (hI.below hb) hk rfl hft).mono ?_
        rintro e W' ⟨rfl, hPA, hKQ⟩
        refine ⟨_, rfl, fun b h1 h2 => hKQ.1 b (by omega) h2, hKQ.2, ?_⟩
        by_cases hd : (r : Int) = 2 ∨ ¬ (k : Int) + 1 = m
        · rw [if_pos (by simpa using hd)]
          exact hPA
        · rw [if_neg (by simpa using hd)]
          have hd1 : ¬ (r : Int) = 2 := fun h => hd (.inl h)
          have hd2 : (k : Int) + 1 = m := by
            by_cases h : (k : Int) + 1 = m
            · exact h
            · exact absurd (.inr h) hd
          rw [hd2] at hPA
          exact ⟨hPA, hd1⟩
      clear hP9 hgl
      go_upto_region 11 with (go_at_call 55; refine CI.mono ?_; rintro e w10 ⟨rfl, hd⟩; have HD : Hid _ := hd; clear hd CI f0)
      have hex : ∃ n : Int, (n = m ∧ ¬ (r : Int) = 2 ∨ n = 38) ∧ PA q lim W (lim + 1) gr gn (gn + 1) m i (r : Int) n true (.slice (some ⟨bw, ow, none⟩) 38 cw) w10 := by
        rcases HD.out with hd | hd
        · exact ⟨m, .inl ⟨rfl, hd.2⟩, hd.1⟩
        · exact ⟨38, .inr rfl, hd⟩
      obtain ⟨n, hn, hP10⟩ := hex
      clear HD
      have c0 := one_cell hP10.hk
      have c1 := one_cell hP10.hn
      have c2 := one_cell hP10.hw
      have c3 := one_cell hP10.hr
      have c4 := one_cell hP10.hm
      have H10 : Hid (PR q lim W (lim + 1) gr m i (r : Int) (.slice (some ⟨bw, ow, none⟩) 38 cw) w10) := hP10.pr
      clear hP10
      by_cases h38 : n = 38
      · have g1 : (n == 38) = true := by simpa using h38
        have g3 : (n != 38) = false := by simpa using h38
        have g2 : decide (n = 38) = true := by simpa using h38
        have HNN : Hid (n = 38) := h38
        clear h38 hn
        go_upto_region 13 with (fail)
        clear c0 c1 c2 c4
        go_upto_region 7 with (fail)
        have hP12 := H10.out.next (r : Int)
        obtain ⟨g12, hg12⟩ : ∃ g12, w10.heap.size = g12 := ⟨_, rfl⟩
        obtain ⟨w12, hw12⟩ : ∃ w12, w10.alloc (.cells #[.int .i64 (r : Int)] 3) = w12 := ⟨_, rfl⟩
        simp only [hg12, hw12] at hP12 ⊢
        have H12 : Hid (PR q lim W (lim + 1) g12 m i (r : Int) (.slice (some ⟨bw, ow, none⟩) 38 cw) w12) := hP12
        have e0 := one_cell hP12.hr
        have e1 := one_froz hP12.hr
        have b1 : (r : Int) ≤ 3 := by have := HR3.out; omega
        have b0 : (0 : Int) ≤ (r : Int) := by omega
        clear hP12 hg12 hw12 c3
        go_wp2
        have hP13 := H12.out.setR ((r : Int) + 1)
        refine ⟨⟨g12, r + 1, HRL.out, rfl, hP13⟩, ?_⟩
        rw [rdM_at (r := r + 1) hP13.hr, rdM_at HPR.out.hr]
        have := HRL.out
        omega
      have g1 : (n == 38) = false := by simpa using h38
      have g2 : decide (n = 38) = false := by simpa using h38
      have g3 : (n != 38) = true := by simpa using h38
      obtain ⟨hm, h2⟩ := hn.resolve_right h38
      subst hm
      have g4 : ((r : Int) == 2) = false := by simpa using h2
      have g5 : decide ((r : Int) = 2) = false := by simpa using h2
      have HNN : Hid (¬ n = 38 ∧ ¬ (r : Int) = 2) := ⟨h38, h2⟩
      clear h38 h2 hn
      go_upto_region 13 with (fail)
      clear c0 c1 c2 c4
      go_upto_region 7 with (fail)
      have hP12 := H10.out.next (r : Int)
      obtain ⟨g12, hg12⟩ : ∃ g12, w10.heap.size = g12 := ⟨_, rfl⟩
      obtain ⟨w12, hw12⟩ : ∃ w12, w10.alloc (.cells #[.int .i64 (r : Int)] 3) = w12 := ⟨_, rfl⟩
      simp only [hg12, hw12] at hP12 ⊢
      have H12 : Hid (PR q lim W (lim + 1) g12 n i (r : Int) (.slice (some ⟨bw, ow, none⟩) 38 cw) w12) := hP12
      have e0 := one_cell hP12.hr
      have e1 := one_froz hP12.hr
      have b1 : (r : Int) ≤ 3 := by have := HR3.out; omega
      have b0 : (0 : Int) ≤ (r : Int) := by omega
      clear hP12 hg12 hw12 c3
      go_wp2
      have hP13 := H12.out.setR ((r : Int) + 1)
      refine ⟨⟨g12, r + 1, HRL.out, rfl, hP13⟩, ?_⟩
      rw [rdM_at (r := r + 1) hP13.hr, rdM_at HPR.out.hr]
      have := HRL.out
      omega
    · obtain rfl : r = 3 := by omega
      clear hlt hr3
      have CK := known_any (ea := ea) wr (HE.out _ HPR.out.old)
      go_wp2_with (go_at_call 10; refine CK.mono ?_; rintro e w9 ⟨rfl, hb⟩; have H9 : Hid (Below q W w9) := HPR.out.old.trans (hb.mono (by have := HPR.out.lt; have := HPR.out.o; omega)); clear hb CK)
      go_ret
      exact ⟨rfl, H9.out⟩
end Go.Proofs.YtmlcgcmoioekpaaGreatDoor
