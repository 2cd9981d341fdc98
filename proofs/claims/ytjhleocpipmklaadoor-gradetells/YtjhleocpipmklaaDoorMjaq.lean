import Derived.Test.YtjhleocpipmklaaDoorMjap
namespace Go.Proofs.YtjhleocpipmklaaDoor
set_option linter.unusedSimpArgs false
set_option linter.unusedVariables false
set_option maxRecDepth 100000
open Go.ChangeShapes Go.WideShapes Go.ChangeAt Go.RowKit Go.Pin Go.Pat Go.Deep
def ag (s : Nat) (r : List Bool) (l : List Int) : List Bool := l.foldl (fun r t => r.set (lf t s) true) r
theorem ag_len (s : Nat) (l : List Int) : ∀ r : List Bool, (ag s r l).length = r.length := by
  induction l with
  | nil => intro r; rfl
  | cons t l ih => intro r; show (ag s (r.set (lf t s) true) l).length = _; rw [ih, List.length_set]
theorem nr_bg (s : Nat) (hs : s < 2) (l : List Int) (hl : ∀ t ∈ l, t = 1 ∨ t = 2) : ∀ x : Sn, x.length = 12 → nr (bg s x l) = ag s (nr x) l := by
  induction l with
  | nil => intro x _; rfl
  | cons t l ih =>
    intro x hx
    have e1 : bg s x (t :: l) = bg s (if t = 1 then x.set s true else x.set (2 + s) true) l := rfl
    have e2 : ag s (nr x) (t :: l) = ag s ((nr x).set (lf t s) true) l := rfl
    rw [e1, e2, ih (fun u hu => hl u (by simp [hu])) _ (by split <;> simp [hx])]
    congr 1
    obtain ⟨a, b, c, d, e, f, g, i, j, k, l, m, rfl⟩ := twelve' hx
    rcases hl t (by simp) with rfl | rfl
    all_goals rcases (by omega : s = 0 ∨ s = 1) with rfl | rfl
    all_goals rfl
theorem nr_beg (p : Pt) (h0 : ∀ t ∈ p.b0, t = 1 ∨ t = 2) (h1 : ∀ t ∈ p.b1, t = 1 ∨ t = 2) : nr (beg p) = ag 1 (ag 0 zr p.b0) p.b1 := by
  unfold beg
  rw [nr_bg 1 (by decide) _ h1 _ (by rw [bg_length]; rfl), nr_bg 0 (by decide) _ h0 _ rfl]
  rfl
theorem ahd_12 {l : List Int} (h : ahd l = true) : ∀ t ∈ l, t = 1 ∨ t = 2 := by
  match l, h with
  | [], _ => intro t ht; simp at ht
  | [a], h => intro t ht; simp [ahd] at h; simp at ht; omega
  | [a, b], h => intro t ht; simp [ahd] at h; simp at ht; omega
  | _ :: _ :: _ :: _, h => simp [ahd] at h
/-- ahead's row -/
structure HA1 (n : Nat) (w : World) (r : List Bool) (wr : World) : Prop where
  old : Below n w wr
  sz : n + 2 ≤ wr.heap.size
  hr : wr.heap[n + 1]? = some (.cells (bc r) 69)
theorem HA1.set {n : Nat} {w wr : World} {r : List Bool} (h : HA1 n w r wr) (i : Nat) (b : Bool) : HA1 n w (r.set i b) (wr.setCell ⟨n + 1, i, none⟩ (.bool b)) := by
  refine ⟨h.old.setCell (by show n ≤ n + 1; omega) _, by simpa using h.sz, ?_⟩
  rw [Go.heap_setCell_same _ _ _ _ _ _ h.hr]
  simp [bc]
theorem HA1.rc {n : Nat} {w wr : World} {r : List Bool} (h : HA1 n w r wr) {i : Nat} (hi : i < r.length) : wr.cell? ⟨n + 1, i, none⟩ = some (.bool (r.getD i false)) := by
  rw [cell_of_row _ _ _ _ _ _ h.hr]
  simp [bc, List.getD, hi]
theorem HA1.free {n : Nat} {w wr : World} {r : List Bool} (h : HA1 n w r wr) (i : Nat) : wr.frozen? ⟨n + 1, i, none⟩ = false := frozen_of_row _ _ _ _ _ h.hr
/-- the keys of one side, from the j-th round on -/
def agN (p : Pt) : Nat → List Bool
  | 0 => zr
  | 1 => ag 0 zr p.b0
  | _ => ag 1 (ag 0 zr p.b0) p.b1
set_option maxHeartbeats 4000000 in
theorem ahead_row {ea : Int → Addr} (v : Value) (p : Pt) (w : World) (h : RdP w v p) (hb0 : ∀ t ∈ p.b0, t = 1 ∨ t = 2) (hb1 : ∀ t ∈ p.b1, t = 1 ∨ t = 2) (hE : Errs ea w) :
    Calls Tryd.prog 34 #[v] w fun e w' => e = .returned (rv (ag 1 (ag 0 zr p.b0) p.b1)) ∧ Below w.heap.size w w' := by
  obtain ⟨v0, v1, vl, rfl, h0, h1, hl⟩ := h
  obtain ⟨n, hn⟩ : ∃ n, w.heap.size = n := ⟨_, rfl⟩
  obtain ⟨a0, k0, rfl, _, hm0, _⟩ := id h0
  obtain ⟨a1, k1, rfl, _, hm1, _⟩ := id h1
  have hat0 := h0.at.2.2
  have hat1 := h1.at.2.2
  rw [hn] at hat0 hat1
  obtain ⟨L0, hL0⟩ : ∃ L, p.b0.length = L := ⟨_, rfl⟩
  obtain ⟨L1, hL1⟩ : ∃ L, p.b1.length = L := ⟨_, rfl⟩
  rw [hL0] at hat0 hm0
  rw [hL1] at hat1 hm1
  rw [hL0, hL1]
  obtain ⟨nm, hnm⟩ : ∃ nm, p.nm = nm := ⟨_, rfl⟩
  rw [hnm]
  obtain ⟨W, hW⟩ : ∃ W, (w.alloc (.cells #[.string nm, .slice a0 L0 k0, .slice a1 L1 k1, vl] 26)).alloc (.cells (bc zr) 69) = W := ⟨_, rfl⟩
  have hW' : (w.alloc (.cells #[.string nm, .slice a0 L0 k0, .slice a1 L1 k1, vl] 26)).alloc (.cells #[.bool false, .bool false, .bool false, .bool false, .bool false, .bool false, .bool false, .bool false, .bool false] 69) = W := hW
  have hst : HA1 n w zr W := by
    rw [← hW, ← hn]
    refine ⟨((Below.refl _ _).alloc (Nat.le_refl _) _).alloc (by simp) _, by simp [size_alloc], ?_⟩
    simp only [heap_alloc_any, size_alloc]
    rw [if_pos trivial]
  have HS : Hid (HA1 n w zr W) := hst
  have hWp : W.heap[n]? = some (.cells #[.string nm, .slice a0 L0 k0, .slice a1 L1 k1, vl] 26) := by
    rw [← hW, ← hn]
    simp only [heap_alloc_any, size_alloc]
    rw [if_neg (by omega), if_pos trivial]
  have c1 : W.cell? ⟨n, 1, none⟩ = some (.slice a0 L0 k0) := by rw [cell_of_row _ _ _ _ _ _ hWp]; rfl
  have c2 : W.cell? ⟨n, 2, none⟩ = some (.slice a1 L1 k1) := by rw [cell_of_row _ _ _ _ _ _ hWp]; rfl
  have H0 : Hid (∀ j, j < L0 → _) := hat0
  have H1 : Hid (∀ j, j < L1 → _) := hat1
  have HM : Hid (L0 ≤ 140737488355328 ∧ p.b0.length = L0 ∧ L1 ≤ 140737488355328 ∧ p.b1.length = L1) := ⟨hm0, hL0, hm1, hL1⟩
  have HT : Hid ((∀ t ∈ p.b0, t = 1 ∨ t = 2) ∧ ∀ t ∈ p.b1, t = 1 ∨ t = 2) := ⟨hb0, hb1⟩
  have HE : Hid (∀ y, Below n w y → Errs ea y) := fun y hy => hE.below (by rw [hn]; exact hy)
  clear hst hat0 hat1 hm0 hm1 hL0 hL1 hE hW h0 h1 hl hWp hb0 hb1 hnm
  go_enter Tryd.func34, Tryd.ntmps34
  go_wp2
  clear c1 c2 hW'
  go_loopw [9] (fun v9 wr => ∃ j : Nat, j ≤ 2 ∧ v9 = .int .i64 j ∧ HA1 n w (agN p j) wr) (fun v _ => 2 - (intOf v).toNat)
  case atStart => exact ⟨0, Nat.zero_le _, rfl, HS.out⟩
  case round =>
    obtain ⟨j, hj, rfl, hx⟩ := hrel
    have HX : Hid (HA1 n w (agN p j) wr) := hx
    rcases (by omega : j = 0 ∨ j = 1 ∨ j = 2) with hj0 | hj1 | hj2
    · have HJ : Hid (j = 0) := hj0
      have bj : (j : Int) < 2 := by omega
      have hix : ∀ y, (Instr.index 23 (.agg #[.slice a0 L0 k0, .slice a1 L1 k1]) (.int .i64 j)).run Tryd.prog y = .ok (.slice a0 L0 k0) y := fun y => by
        rw [hj0]
        kernel_rfl
      have bL : (L0 : Int) ≤ 140737488355328 := by have := HM.out.1; omega
      clear hx hj hj0
      go_wp2
      clear hix
      go_loopw [15] (fun v15 wr => ∃ (i : Nat) (r' : List Bool), i ≤ L0 ∧ v15 = .int .i64 i ∧ r'.length = 9 ∧ agN p (j + 1) = ag 0 r' (p.b0.drop i) ∧ HA1 n w r' wr) (fun v _ => L0 - (intOf v).toNat)
      case atStart => exact ⟨0, agN p j, Nat.zero_le _, rfl, by rw [HJ.out]; simp [agN, ag_len, zr], by rw [HJ.out]; rfl, HX.out⟩
      case round =>
        obtain ⟨i, r', hi, rfl, hr', hag, hy⟩ := hrel
        by_cases hlt : i < L0
        · have b1 : (i : Int) < (L0 : Int) := by omega
          obtain ⟨b, o, rfl, hc⟩ := H0.out i hlt
          have htt : p.b0.getD i 0 = 1 ∨ p.b0.getD i 0 = 2 := HT.out.1 _ (by rw [getD_at (by rw [HM.out.2.1]; exact hlt)]; exact List.getElem_mem _)
          obtain ⟨k, hk⟩ : ∃ k : Nat, p.b0.getD i 0 = (k : Int) := ⟨(p.b0.getD i 0).toNat, by omega⟩
          have hk1 : 1 ≤ k ∧ k ≤ 7 := by omega
          have hdr : p.b0.drop i = (k : Int) :: p.b0.drop (i + 1) := by
            rw [List.drop_eq_getElem_cons (by rw [HM.out.2.1]; exact hlt), ← hk, getD_at (by rw [HM.out.2.1]; exact hlt)]
          rw [hk] at hc
          have cT := hc _ hy.old
          obtain ⟨l, hl⟩ : ∃ l, lf k 0 = l := ⟨_, rfl⟩
          have hlf := lf_lt (t := (k : Int)) ⟨by omega, by omega⟩ (s := 0) (by decide)
          rw [hl] at hlf
          have HB : Hid (agN p (j + 1) = ag 0 (r'.set l true) (p.b0.drop (i + 1)) ∧ r'.length = 9) := by
            refine ⟨?_, hr'⟩
            rw [hag, hdr, ← hl]
            rfl
          have rl := rules_at (HE.out _ hy.old).2.rules k hk1.1 hk1.2 0 (.int .i64 l) (by rw [← hl]; rfl)
          have rl' := rl
          rw [show (0 : Nat) = j from HJ.out.symm] at rl
          have cl := hy.rc (i := l) (by rw [hr']; exact hlf)
          have fl := hy.free l
          have bl : (l : Int) < 9 := by omega
          have bk1 : (1 : Int) ≤ k := by omega
          have bk7 : (k : Int) < 8 := by omega
          have HY := hy.set l true
          have HYY : Hid _ := HY
          clear hy hr' hag hdr htt hk hc hi hl HY rl'
          go_wp2
          exact ⟨⟨i + 1, _, hlt, congrArg (Value.int .i64) (by omega), by rw [List.length_set]; exact HB.out.2, HB.out.1, HYY.out⟩, by show L0 - ((i : Int) + 1).toNat < L0 - ((i : Int)).toNat; omega⟩
        · have b1 : ¬ (i : Int) < (L0 : Int) := by omega
          have hdr : p.b0.drop i = [] := List.drop_eq_nil_of_le (by rw [HM.out.2.1]; omega)
          rw [hdr] at hag
          rw [show r' = agN p (j + 1) from hag.symm] at hy
          have HYY : Hid _ := hy
          clear hy hr' hag hdr hi
          go_wp2
          exact ⟨⟨j + 1, by have := HJ.out; omega, congrArg (Value.int .i64) (by omega), HYY.out⟩, by show 2 - ((j : Int) + 1).toNat < 2 - ((j : Int)).toNat; have := HJ.out; omega⟩
    · have HJ : Hid (j = 1) := hj1
      have bj : (j : Int) < 2 := by omega
      have hix : ∀ y, (Instr.index 23 (.agg #[.slice a0 L0 k0, .slice a1 L1 k1]) (.int .i64 j)).run Tryd.prog y = .ok (.slice a1 L1 k1) y := fun y => by
        rw [hj1]
        kernel_rfl
      have bL : (L1 : Int) ≤ 140737488355328 := by have := HM.out.2.2.1; omega
      clear hx hj hj1
      go_wp2
      clear hix
      go_loopw [15] (fun v15 wr => ∃ (i : Nat) (r' : List Bool), i ≤ L1 ∧ v15 = .int .i64 i ∧ r'.length = 9 ∧ agN p (j + 1) = ag 1 r' (p.b1.drop i) ∧ HA1 n w r' wr) (fun v _ => L1 - (intOf v).toNat)
      case atStart => exact ⟨0, agN p j, Nat.zero_le _, rfl, by rw [HJ.out]; simp [agN, ag_len, zr], by rw [HJ.out]; rfl, HX.out⟩
      case round =>
        obtain ⟨i, r', hi, rfl, hr', hag, hy⟩ := hrel
        by_cases hlt : i < L1
        · have b1 : (i : Int) < (L1 : Int) := by omega
          obtain ⟨b, o, rfl, hc⟩ := H1.out i hlt
          have htt : p.b1.getD i 0 = 1 ∨ p.b1.getD i 0 = 2 := HT.out.2 _ (by rw [getD_at (by rw [HM.out.2.2.2]; exact hlt)]; exact List.getElem_mem _)
          obtain ⟨k, hk⟩ : ∃ k : Nat, p.b1.getD i 0 = (k : Int) := ⟨(p.b1.getD i 0).toNat, by omega⟩
          have hk1 : 1 ≤ k ∧ k ≤ 7 := by omega
          have hdr : p.b1.drop i = (k : Int) :: p.b1.drop (i + 1) := by
            rw [List.drop_eq_getElem_cons (by rw [HM.out.2.2.2]; exact hlt), ← hk, getD_at (by rw [HM.out.2.2.2]; exact hlt)]
          rw [hk] at hc
          have cT := hc _ hy.old
          obtain ⟨l, hl⟩ : ∃ l, lf k 1 = l := ⟨_, rfl⟩
          have hlf := lf_lt (t := (k : Int)) ⟨by omega, by omega⟩ (s := 1) (by decide)
          rw [hl] at hlf
          have HB : Hid (agN p (j + 1) = ag 1 (r'.set l true) (p.b1.drop (i + 1)) ∧ r'.length = 9) := by
            refine ⟨?_, hr'⟩
            rw [hag, hdr, ← hl]
            rfl
          have rl := rules_at (HE.out _ hy.old).2.rules k hk1.1 hk1.2 1 (.int .i64 l) (by rw [← hl]; rfl)
          have rl' := rl
          rw [show (1 : Nat) = j from HJ.out.symm] at rl
          have cl := hy.rc (i := l) (by rw [hr']; exact hlf)
          have fl := hy.free l
          have bl : (l : Int) < 9 := by omega
          have bk1 : (1 : Int) ≤ k := by omega
          have bk7 : (k : Int) < 8 := by omega
          have HY := hy.set l true
          have HYY : Hid _ := HY
          clear hy hr' hag hdr htt hk hc hi hl HY rl'
          go_wp2
          exact ⟨⟨i + 1, _, hlt, congrArg (Value.int .i64) (by omega), by rw [List.length_set]; exact HB.out.2, HB.out.1, HYY.out⟩, by show L1 - ((i : Int) + 1).toNat < L1 - ((i : Int)).toNat; omega⟩
        · have b1 : ¬ (i : Int) < (L1 : Int) := by omega
          have hdr : p.b1.drop i = [] := List.drop_eq_nil_of_le (by rw [HM.out.2.2.2]; omega)
          rw [hdr] at hag
          rw [show r' = agN p (j + 1) from hag.symm] at hy
          have HYY : Hid _ := hy
          clear hy hr' hag hdr hi
          go_wp2
          exact ⟨⟨j + 1, by have := HJ.out; omega, congrArg (Value.int .i64) (by omega), HYY.out⟩, by show 2 - ((j : Int) + 1).toNat < 2 - ((j : Int)).toNat; have := HJ.out; omega⟩
    · have b1 : ¬ (j : Int) < 2 := by omega
      obtain ⟨R, hR⟩ : ∃ R, bc (ag 1 (ag 0 zr p.b0) p.b1) = R := ⟨_, rfl⟩
      have hl9 : (ag 1 (ag 0 zr p.b0) p.b1).length = 9 := by simp [ag_len, zr]
      have HG : Hid (wr.heap[n + 1]? = some (.cells R 69) ∧ (Tryd.prog.info? 69).map (·.size) = some R.size ∧ R.all (·.oneCell') = true ∧ bc (ag 1 (ag 0 zr p.b0) p.b1) = R) := by
        rw [hj2] at hx
        rw [← hR]
        exact ⟨hx.hr, bc_size hl9, bc_one _, rfl⟩
      clear hx hj hR hl9
      go_wp2_with (first
        | (with_reducible refine at_list ?_; refine wpList_load_row rfl 69 (.tmp 2) rfl (n + 1) rfl 69 R (0, 0) _ HG.out.1 Tryd.underlying69 rfl HG.out.2.1 ?_)
        | (with_reducible refine at_list ?_; refine wpList_store_row rfl 69 (.tmp 2) (.tmp 28) rfl (n + 1) R rfl rfl 69 R HG.out.1 HG.out.2.1 rfl HG.out.2.2.1 ?_))
      refine bodyPost_ret (v := .agg R) ?_ rfl ⟨?_, below_setRow HX.out.old _ (by omega) _⟩
      · exact results_cell_row (P := Tryd.prog) (fn := Tryd.f34) (p := 2) (ty := 69) rfl _ _ (n + 1) 69 R (0, 0) _ rfl (setRow_heap _ _ _ _ 69 _ HG.out.1) Tryd.underlying69 rfl HG.out.2.1
      · rw [← HG.out.2.2.2]
        rfl
end Go.Proofs.YtjhleocpipmklaaDoor
namespace Go.Proofs.YtjhleocpipmklaaDoor
set_option linter.unusedSimpArgs false
set_option linter.unusedVariables false
set_option maxRecDepth 100000
open Go.ChangeShapes Go.WideShapes Go.ChangeAt Go.RowKit Go.Pin Go.Pat Go.Deep
set_option maxRecDepth 100000 in
theorem inOrder_any (v : Value) (C : List Int) (w : World) (h : RdN w v C) :
    Calls Tryd.prog 55 #[v] w fun e w' => e = .returned (.bool (ahd C)) ∧ w' = w := by
  obtain ⟨a, cap, rfl, _, hm, _⟩ := id h
  have hat := h.at.2.2
  match C, h, hm, hat with
  | [], _, _, _ =>
    clear hm hat h
    go_enter Tryd.func55, Tryd.ntmps55
    go_wp2
    go_ret
    exact ⟨rfl, rfl⟩
  | [x], _, _, hat =>
    obtain ⟨b, o, rfl, h0⟩ := hat 0 (by simp)
    have c0 := h0 w (Below.refl _ _)
    simp only [List.getD_cons_zero, Nat.add_zero] at c0
    clear hm hat h h0
    go_enter Tryd.func55, Tryd.ntmps55
    go_wp2
    all_goals
      go_ret
      exact ⟨by simp_all [ahd], rfl⟩
  | [x, y], _, _, hat =>
    obtain ⟨b, o, rfl, h0⟩ := hat 0 (by simp)
    obtain ⟨b', o', e, h1⟩ := hat 1 (by simp)
    injection e with e
    injection e with e1 e2
    subst e1 e2
    have c0 := h0 w (Below.refl _ _)
    have c1 := h1 w (Below.refl _ _)
    simp only [List.getD_cons_zero, List.getD_cons_succ, Nat.add_zero] at c0 c1
    clear hm hat h h0 h1
    go_enter Tryd.func55, Tryd.ntmps55
    go_wp2
    all_goals
      go_ret
      exact ⟨by simp_all [ahd], rfl⟩
  | x :: y :: z :: r, _, _, _ =>
    have b0 : ¬ ((r.length + 1 + 1 + 1 : Nat) : Int) = 0 := by omega
    have b1 : ¬ ((r.length + 1 + 1 + 1 : Nat) : Int) = 1 := by omega
    have b2 : ¬ ((r.length + 1 + 1 + 1 : Nat) : Int) = 2 := by omega
    simp only [List.length_cons]
    generalize r.length + 1 + 1 + 1 = n at *
    clear hm hat h
    go_enter Tryd.func55, Tryd.ntmps55
    go_wp2
    go_ret
    exact ⟨by simp_all [ahd], rfl⟩
set_option maxRecDepth 100000 in
theorem powOne_any (v : Value) (p : Pt) (w : World) (h : RdP w v p) :
    Calls Tryd.prog 37 #[v] w fun e w' => e = .returned (.bool (oneWay p)) ∧ Below w.heap.size w w' := by
  obtain ⟨v0, v1, vl, rfl, _, _, hl⟩ := h
  obtain ⟨al, cl, rfl, _, hm, _⟩ := id hl
  obtain ⟨nm, b0, b1, L⟩ := p
  have hat := fun j (hj : j < L.length) => hl.at hj
  simp only at hl hm hat ⊢
  match L, hm, hat with
  | [], _, _ =>
    clear hl hat hm
    go_enter Tryd.func37, Tryd.ntmps37
    go_wp2
    go_ret
    exact ⟨rfl, (Below.refl _ _).alloc (Nat.le_refl _) _⟩
  | [(f, ts)], _, hat =>
    obtain ⟨b, o, a2, n2, c2, rfl, hc, _, _⟩ := hat 0 (by simp)
    have c0 := (hc (w.alloc (.cells #[.string nm, v0, v1, .slice (some ⟨b, o, none⟩) 1 cl] 26)) ((Below.refl _ _).alloc (Nat.le_refl _) _)).1
    simp only [List.getD_cons_zero, Nat.zero_mul, Nat.add_zero] at c0
    clear hl hat hm hc
    go_enter Tryd.func37, Tryd.ntmps37
    go_wp2
    all_goals
      go_ret
      exact ⟨by simp_all [oneWay], (Below.refl _ _).alloc (Nat.le_refl _) _⟩
  | x :: y :: r, _, _ =>
    have b1 : ¬ ((r.length + 1 + 1 : Nat) : Int) = 1 := by omega
    simp only [List.length_cons]
    generalize r.length + 1 + 1 = n at *
    clear hl hat hm
    go_enter Tryd.func37, Tryd.ntmps37
    go_wp2
    go_ret
    exact ⟨by simp_all [oneWay], (Below.refl _ _).alloc (Nat.le_refl _) _⟩
/-- a message's shape, by itself -/
def slB (f : Int) (ts : List Int) : Bool := decide (f = 0 ∨ f = 1) && (ts.all isTok && !ts.isEmpty)
set_option maxHeartbeats 4000000 in
theorem shapedLine_any (f : Int) (u : Value) (ts : List Int) (w : World) (hu : RdN w u ts) :
    Calls Tryd.prog 56 #[.agg #[.int .i64 f, u]] w fun e w' => e = .returned (.bool (slB f ts)) ∧ Below w.heap.size w w' := by
  obtain ⟨a, cap, rfl, _, hm, _⟩ := id hu
  have hat := hu.at.2.2
  obtain ⟨n, hn⟩ : ∃ n, w.heap.size = n := ⟨_, rfl⟩
  obtain ⟨L, hL⟩ : ∃ L, ts.length = L := ⟨_, rfl⟩
  rw [hL] at hm hat
  rw [hn] at hat
  rw [hL]
  have HAT : Hid (∀ j, j < L → _) := hat
  have HM : Hid (L ≤ 140737488355328 ∧ ts.length = L) := ⟨hm, hL⟩
  have HB : Hid (Below n w (w.alloc (.cells #[.int .i64 f, .slice a L cap] 43))) := by
    show Below n w _
    rw [← hn]
    exact (Below.refl _ _).alloc (Nat.le_refl _) _
  clear hat hm hL hu
  by_cases h01 : f = 0 ∨ f = 1
  · have HF : Hid (slB f ts = (ts.all isTok && !ts.isEmpty)) := by show slB f ts = _; simp [slB, h01]
    rcases h01 with rfl | rfl
    all_goals
      go_enter Tryd.func56, Tryd.ntmps56
      go_wp2
      go_loopw [16] (fun v16 wr => ∃ i : Nat, i ≤ L ∧ v16 = .int .i64 i ∧ (ts.take i).all isTok = true ∧ wr = w.alloc (.cells #[.int .i64 _, .slice a L cap] 43)) (fun v _ => L - (intOf v).toNat)
      case atStart => exact ⟨0, Nat.zero_le _, rfl, rfl, rfl⟩
      case round =>
        obtain ⟨i, hi, rfl, hall, rfl⟩ := hrel
        by_cases hlt : i < L
        · have b1 : (i : Int) < (L : Int) := by omega
          have bL : (L : Int) ≤ 140737488355328 := by have := HM.out.1; omega
          obtain ⟨b, o, rfl, hc⟩ := HAT.out i hlt
          have cT := hc _ HB.out
          obtain ⟨t, htt⟩ : ∃ t, ts.getD i 0 = t := ⟨_, rfl⟩
          rw [htt] at cT
          have hsp : ts.take (i + 1) = ts.take i ++ [t] := by
            have hi' : i < ts.length := by rw [HM.out.2]; exact hlt
            rw [List.take_succ_eq_append_getElem hi', ← htt, getD_at hi']
          have hmem : t ∈ ts := by
            have hi' : i < ts.length := by rw [HM.out.2]; exact hlt
            rw [← htt, getD_at hi']
            exact List.getElem_mem _
          by_cases ht1 : t < 1
          · have HR : Hid (ts.all isTok = false) := by
              show ts.all isTok = false
              rw [List.all_eq_false]
              exact ⟨t, hmem, by simp [isTok]; omega⟩
            clear hall hsp hmem hc hi htt
            go_wp2
            go_ret
            exact ⟨by rw [HF.out, HR.out]; rfl, by first | exact HB.out | (rw [hn]; exact HB.out)⟩
          · by_cases ht7 : 7 < t
            · have HR : Hid (ts.all isTok = false) := by
                show ts.all isTok = false
                rw [List.all_eq_false]
                exact ⟨t, hmem, by simp [isTok]; omega⟩
              clear hall hsp hmem hc hi htt
              go_wp2
              go_ret
              exact ⟨by rw [HF.out, HR.out]; rfl, by first | exact HB.out | (rw [hn]; exact HB.out)⟩
            · have HR : Hid ((ts.take (i + 1)).all isTok = true) := by
                show (ts.take (i + 1)).all isTok = true
                rw [hsp, List.all_append, hall]
                simp [isTok]
                omega
              clear hall hsp hmem hc hi htt
              go_wp2
              exact ⟨⟨i + 1, hlt, congrArg (Value.int .i64) (by omega), HR.out, trivial⟩, by show L - ((i : Int) + 1).toNat < L - ((i : Int)).toNat; omega⟩
        · have b1 : ¬ (i : Int) < (L : Int) := by omega
          have HR : Hid (ts.all isTok = true) := by
            show ts.all isTok = true
            rw [List.take_of_length_le (by rw [HM.out.2]; omega)] at hall
            exact hall
          clear hall hi
          by_cases h0 : L = 0
          · have g0 : ¬ (0 : Int) < (L : Int) := by omega
            have HE : Hid (ts.isEmpty = true) := by show ts.isEmpty = true; rw [List.isEmpty_iff]; exact List.length_eq_zero_iff.1 (by rw [HM.out.2, h0])
            clear h0
            go_wp2
            go_ret
            exact ⟨by rw [HF.out, HR.out, HE.out]; simp; omega, by first | exact HB.out | (rw [hn]; exact HB.out)⟩
          · have g0 : (0 : Int) < (L : Int) := by omega
            have HE : Hid (ts.isEmpty = false) := by
              show ts.isEmpty = false
              rw [List.isEmpty_eq_false_iff]
              intro e
              rw [e] at HM
              have := HM.out.2
              simp at this
              omega
            clear h0
            go_wp2
            go_ret
            exact ⟨by rw [HF.out, HR.out, HE.out]; simp; omega, by first | exact HB.out | (rw [hn]; exact HB.out)⟩
  · have g0 : ¬ f = 0 := by omega
    have g1 : ¬ f = 1 := by omega
    have HF : Hid (slB f ts = false) := by show slB f ts = _; simp [slB, h01]
    have g0n : (f != 0) = true := by simpa using g0
    have g1n : (f != 1) = true := by simpa using g1
    clear h01
    go_enter Tryd.func56, Tryd.ntmps56
    go_wp2
    go_ret
    exact ⟨by rw [HF.out]; rfl, by first | exact HB.out | (rw [hn]; exact HB.out)⟩
end Go.Proofs.YtjhleocpipmklaaDoor
namespace Go.Proofs.YtjhleocpipmklaaDoor
set_option linter.unusedSimpArgs false
set_option linter.unusedVariables false
set_option maxRecDepth 100000
open Go.ChangeShapes Go.WideShapes Go.ChangeAt Go.RowKit Go.Pin Go.Pat Go.Deep
theorem LB.below {q m : Nat} {w wr w' : World} {nm : ByteArray} {v0 v1 vl : Value} {f : Int} {vt : Value} (h : LB q m w nm v0 v1 vl f vt wr) (hb : Below wr.heap.size wr w') : LB q m w nm v0 v1 vl f vt w' :=
  ⟨h.pb.below hb, h.ne, Nat.lt_of_lt_of_le h.lt hb.size, (hb.block _ h.lt).trans h.row⟩
theorem shp_all_ne : ∀ (L : List Ln) (o : Option Int) (n : Nat), shp o n L = true → L ≠ [] → n < n + (L.map (fun l => l.2.length)).sum
  | [], _, _, _, h => absurd rfl h
  | (f, ts) :: r, o, n, h, _ => by
    rw [shp_split] at h
    simp only [Bool.and_eq_true, decide_eq_true_eq] at h
    have h1 : ts ≠ [] := by simpa using h.1.1.1.2
    have := List.length_pos_iff.2 h1
    simp
    omega
set_option maxHeartbeats 4000000 in
theorem pshaped_any (v : Value) (p : Pt) (w : World) (h : RdP w v p) :
    Calls Tryd.prog 33 #[v] w fun e w' => e = .returned (.bool (shaped p)) ∧ Below w.heap.size w w' := by
  obtain ⟨v0, v1, vl, rfl, h0, h1, hl⟩ := h
  obtain ⟨al, cl, rfl, _, hm, _⟩ := id hl
  obtain ⟨nm, b0, b1, L⟩ := p
  have hst := pb_start w nm v0 v1 (.slice al L.length cl)
  have hb0 := hst.old
  have H0 := fun (W : World) (hW : Below w.heap.size w W) => inOrder_any v0 b0 W (h0.below hW)
  have H1 := fun (W : World) (hW : Below w.heap.size w W) => inOrder_any v1 b1 W (h1.below hW)
  obtain ⟨q, hq⟩ : ∃ q, w.heap.size = q := ⟨_, rfl⟩
  obtain ⟨W, hW⟩ : ∃ W, w.alloc (.cells #[.string nm, v0, v1, .slice al L.length cl] 26) = W := ⟨_, rfl⟩
  have hat := fun j (hj : j < L.length) => hl.at hj
  obtain ⟨n, hn⟩ : ∃ n, L.length = n := ⟨_, rfl⟩
  simp only [hn, hq] at hst hb0 hat hm hW H0 H1 ⊢
  rw [hW] at hst hb0
  have c1 := hst.c1
  have c2 := hst.c2
  have c3 := hst.c3
  have HP : Hid (PB q w nm v0 v1 (.slice al n cl) W) := hst
  have HAT : Hid (∀ j, j < n → _) := hat
  have HN : Hid (L.length = n) := hn
  have HM : Hid (n ≤ 140737488355328) := hm
  have A0 := H0 W hb0
  have A1 := H1 W hb0
  rcases e0 : ahd b0 with _ | _
  · rw [e0] at A0
    have HR : Hid (shaped ⟨nm, b0, b1, L⟩ = false) := by
      show shaped _ = false
      simp [shaped, e0]
    clear hst hat hm h0 h1 hl H0 H1 A1 hb0
    go_enter Tryd.func33, Tryd.ntmps33
    go_wp2_with (go_at_call 55; refine A0.mono ?_; rintro e w' ⟨rfl, rfl⟩)
    go_ret
    exact ⟨by rw [HR.out]; rfl, HP.out.old⟩
  rcases e1 : ahd b1 with _ | _
  · rw [e0] at A0
    rw [e1] at A1
    have HR : Hid (shaped ⟨nm, b0, b1, L⟩ = false) := by
      show shaped _ = false
      simp [shaped, e1]
    clear hst hat hm h0 h1 hl H0 H1 hb0
    go_enter Tryd.func33, Tryd.ntmps33
    go_wp2_with (go_at_call 55; first | (with_reducible refine A0.mono ?_; rintro e w' ⟨rfl, rfl⟩) | (with_reducible refine A1.mono ?_; rintro e w' ⟨rfl, rfl⟩))
    go_ret
    exact ⟨by rw [HR.out]; rfl, HP.out.old⟩
  rw [e0] at A0
  rw [e1] at A1
  have HR : Hid (shaped ⟨nm, b0, b1, L⟩ = (!L.isEmpty && shp none 0 L)) := by
    show shaped _ = _
    simp [shaped, e0, e1]
  clear hst hat hm h0 h1 hl H0 H1 hb0 e0 e1
  go_enter Tryd.func33, Tryd.ntmps33
  go_wp2_with (go_at_call 55; first | (with_reducible refine A0.mono ?_; rintro e w' ⟨rfl, rfl⟩) | (with_reducible refine A1.mono ?_; rintro e w' ⟨rfl, rfl⟩))
  clear A0 A1 c1 c2 c3
  go_loopw [3, 21] (fun vn vi w' => ∃ k : Nat, k ≤ n ∧ vi = .int .i64 k ∧ vn = .int .i64 ((tl L k : Nat) : Int) ∧ tl L k ≤ 24 ∧ shp none 0 L = shp (pv L k) (tl L k) (L.drop k) ∧ (0 < k → 0 < tl L k) ∧ PB q w nm v0 v1 (.slice al n cl) w') (fun _ v _ => n - (intOf v).toNat)
  case atStart => exact ⟨0, Nat.zero_le _, rfl, rfl, by simp [tl], rfl, fun h => absurd h (by decide), HP.out⟩
  case round =>
    obtain ⟨k, hk, rfl, rfl, ht, hs, hpos, hp⟩ := hrel
    have c3 := hp.c3
    by_cases hlt : k < n
    · have b1 : (k : Int) < (n : Int) := by omega
      have bn : (n : Int) ≤ 140737488355328 := by have := HM.out; omega
      obtain ⟨b, o, a2, n2, c2, rfl, hc, hrn, hn2⟩ := HAT.out k hlt
      have x0 := (hc wr hp.old).1
      have x1 := (hc wr hp.old).2
      obtain ⟨f, hf⟩ : ∃ f, (L.getD k (0, [])).1 = f := ⟨_, rfl⟩
      obtain ⟨TS, hTS⟩ : ∃ T, (L.getD k (0, [])).2 = T := ⟨_, rfl⟩
      rw [hf] at x0
      rw [hTS] at hrn hn2
      have hsa := shp_at L k (by rw [HN.out]; exact hlt)
      rw [hf, hTS] at hsa
      have htl := tl_succ L k (by rw [HN.out]; exact hlt)
      rw [hTS, ← hn2] at htl
      have hn2b := hrn.at.2.1
      have HPW : Hid (PB q w nm v0 v1 (.slice (some ⟨b, o, none⟩) n cl) wr) := hp
      have HSA : Hid (shp none 0 L = _) := hs.trans hsa
      have HTL : Hid (tl L (k + 1) = tl L k + n2) := htl
      have HTS : Hid (RdN w (.slice a2 n2 c2) TS ∧ n2 = TS.length) := ⟨hrn, hn2⟩
      obtain ⟨tk0, htk0⟩ : ∃ t, tl L k = t := ⟨_, rfl⟩
      rw [htk0] at ht
      have HTK : Hid (tl L k = tk0) := htk0
      rw [htk0] at HTL
      simp only [htk0]
      have bt : (tk0 : Int) ≤ 24 := by omega
      have bn2 : (n2 : Int) ≤ 140737488355328 := by omega
      clear hp hs hrn hn2 hsa htl hn2b hf hTS hpos ht htk0 hk
      go_upto_region 7 with fail
      have hlb := lb_start HPW.out f (.slice a2 n2 c2)
      obtain ⟨m, hm2⟩ : ∃ m, wr.heap.size = m := ⟨_, rfl⟩
      obtain ⟨V, hV⟩ : ∃ V, wr.alloc (.cells #[.int .i64 f, .slice a2 n2 c2] 43) = V := ⟨_, rfl⟩
      rw [hm2, hV] at hlb
      simp only [hm2, hV]
      have HLB : Hid (LB q m w nm v0 v1 (.slice (some ⟨b, o, none⟩) n cl) f (.slice a2 n2 c2) V) := hlb
      have z1 := hlb.c1
      have HQ : Hid (w.heap.size = q) := hq
      have CL0 : ∀ y, Below V.heap.size V y → Calls Tryd.prog 56 #[.agg #[.int .i64 f, .slice a2 n2 c2]] y fun e w' => e = .returned (.bool (slB f TS)) ∧ Below y.heap.size y w' := fun y hy =>
        shapedLine_any f _ TS y (HTS.out.1.below (by rw [hq]; exact (HLB.out.pb.below hy).old))
      clear hlb hm2 hV x0 x1
      go_upto_region 8 with fail
      clear z1 c3
      by_cases h24 : 24 < tk0 + n2
      · have g24 : (24 : Int) < (tk0 : Int) + (n2 : Int) := by omega
        have HBAD : Hid (shp none 0 L = false) := by
          show shp none 0 L = false
          rw [HSA.out, HTL.out]
          have : ¬ tk0 + n2 ≤ 24 := by omega
          simp [this]
        clear CL0
        refine Go.Pin.wp_region_cls (fun y => Below V.heap.size V y) (by kernel_rfl) (by kernel_rfl) ((Below.refl _ _).drew) ?_
        intro Sq fq hNq hRq hSq
        have y0 := fun x => ((HLB.out.below (hRq x)).c0)
        have y1 := fun x => ((HLB.out.below (hRq x)).c1)
        have y3 := fun x => ((HLB.out.below (hRq x)).pb.c3)
        repeat (go_big_quiet_step (fail))
        refine wpQuiet_nil ?_
        intro _ hw'
        obtain ⟨xq, hw''⟩ := hw'
        subst hw''
        have HYq := hRq xq
        generalize fq xq = y at HYq ⊢
        have HYB : Hid (PB q w nm v0 v1 (.slice (some ⟨b, o, none⟩) n cl) y) := HLB.out.pb.below HYq
        clear hRq hSq hNq xq fq Sq y0 y1 y3 HYq
        go_wp2
        go_ret
        exact ⟨by rw [HR.out, HBAD.out]; simp, HYB.out.old⟩
      · have g24 : ¬ (24 : Int) < (tk0 : Int) + (n2 : Int) := by omega
        have HT24 : Hid (tk0 + n2 ≤ 24) := by show tk0 + n2 ≤ 24; omega
        clear h24
        by_cases hk0 : k = 0
        · have gk : ¬ (0 : Int) < (k : Int) := by omega
          have gk' : ¬ 0 < k := by omega
          have HGD : Hid (pv L k ≠ some f) := by show pv L k ≠ some f; rw [hk0]; simp [pv]
          clear hk0
          cases hsl : slB f TS with
          | false =>
            have HBAD : Hid (shp none 0 L = false) := by
              show shp none 0 L = false
              rw [HSA.out]
              simp only [slB] at hsl
              cases h1 : decide (f = 0 ∨ f = 1) <;> cases h2 : TS.all isTok <;> cases h3 : TS.isEmpty <;> simp_all
            rw [hsl] at CL0
            have HCL : Hid _ := CL0
            clear CL0 hsl
            refine Go.Pin.wp_region_cls (fun y => Below V.heap.size V y) (by kernel_rfl) (by kernel_rfl) ((Below.refl _ _).drew) ?_
            intro Sq fq hNq hRq hSq
            have y0 := fun x => ((HLB.out.below (hRq x)).c0)
            have y1 := fun x => ((HLB.out.below (hRq x)).c1)
            have y3 := fun x => ((HLB.out.below (hRq x)).pb.c3)
            have CF := fun x => HCL.out (fq x) (hRq x)
            repeat (go_big_quiet_step (exact (CF _).mono (fun e w' h => ⟨h.1, hSq _ ((hRq _).trans (h.2.mono (hRq _).size))⟩)))
            refine wpQuiet_nil ?_
            intro _ hw'
            obtain ⟨xq, hw''⟩ := hw'
            subst hw''
            have HYq := hRq xq
            generalize fq xq = y at HYq ⊢
            have HYB : Hid (PB q w nm v0 v1 (.slice (some ⟨b, o, none⟩) n cl) y) := HLB.out.pb.below HYq
            clear hRq hSq hNq xq fq Sq y0 y1 y3 HYq CF
            go_wp2
            go_ret
            exact ⟨by rw [HR.out, HBAD.out]; simp, HYB.out.old⟩
          | true =>
            have HON : Hid (shp none 0 L = shp (pv L (k + 1)) (tl L (k + 1)) (L.drop (k + 1)) ∧ 0 < n2) := by
              simp only [slB, Bool.and_eq_true, decide_eq_true_eq] at hsl
              refine ⟨?_, ?_⟩
              · have ha : decide (f = 0 ∨ f = 1) = true := decide_eq_true hsl.1
                have hb : decide (pv L k ≠ some f) = true := decide_eq_true HGD.out
                have hd : decide (tl L (k + 1) ≤ 24) = true := decide_eq_true (by rw [HTL.out]; exact HT24.out)
                rw [HSA.out, ha, hb, hsl.2.2, hd, hsl.2.1]
                rfl
              · rw [HTS.out.2]
                exact List.length_pos_iff.2 (by simpa using hsl.2.2)
            rw [hsl] at CL0
            have HCL : Hid _ := CL0
            clear CL0 hsl
            refine Go.Pin.wp_region_cls (fun y => Below V.heap.size V y) (by kernel_rfl) (by kernel_rfl) ((Below.refl _ _).drew) ?_
            intro Sq fq hNq hRq hSq
            have y0 := fun x => ((HLB.out.below (hRq x)).c0)
            have y1 := fun x => ((HLB.out.below (hRq x)).c1)
            have y3 := fun x => ((HLB.out.below (hRq x)).pb.c3)
            have CF := fun x => HCL.out (fq x) (hRq x)
            repeat (go_big_quiet_step (exact (CF _).mono (fun e w' h => ⟨h.1, hSq _ ((hRq _).trans (h.2.mono (hRq _).size))⟩)))
            refine wpQuiet_nil ?_
            intro _ hw'
            obtain ⟨xq, hw''⟩ := hw'
            subst hw''
            have HYq := hRq xq
            generalize fq xq = y at HYq ⊢
            have HYB : Hid (PB q w nm v0 v1 (.slice (some ⟨b, o, none⟩) n cl) y) := HLB.out.pb.below HYq
            clear hRq hSq hNq xq fq Sq y0 y1 y3 HYq CF
            go_wp2
            exact ⟨⟨k + 1, hlt, congrArg (Value.int .i64) (by omega), congrArg (Value.int .i64) (by rw [HTL.out]; omega), by rw [HTL.out]; have := HT24.out; omega, HON.out.1, fun _ => by rw [HTL.out]; have := HON.out.2; omega, HYB.out⟩, by show n - ((k : Int) + 1).toNat < n - ((k : Int)).toNat; omega⟩
        · obtain ⟨k', hk'⟩ : ∃ k', k = k' + 1 := ⟨k - 1, by omega⟩
          obtain ⟨b', o', a3, n3, c3, e, hc', _, _⟩ := HAT.out k' (by omega)
          injection e with e
          injection e with e1 e2
          subst e1 e2
          obtain ⟨f', hf'⟩ : ∃ f', (L.getD k' (0, [])).1 = f' := ⟨_, rfl⟩
          have HZ : Hid (∀ y, Below V.heap.size V y → y.cell? ⟨b, o + k' * 2, none⟩ = some (.int .i64 f')) := fun y hy => by
            rw [← hf']
            exact (hc' y (HLB.out.pb.below hy).old).1
          have HPV : Hid (pv L k = some f') := by show pv L k = some f'; rw [hk']; simp [pv, ← hf']
          have gk : (0 : Int) < (k : Int) := by omega
          have gk' : 0 < k := by omega
          have bw : IntKind.i64.wrap ((k : Int) - 1) = (k' : Int) := by rw [IntWalk.i64_in _ ⟨by omega, by omega⟩]; omega
          have bw' : wrap64 ((k : Int) - 1) = (k' : Int) := by rw [IntWalk.wrap64_in _ ⟨by omega, by omega⟩]; omega
          have bkn : (k' : Int) < (n : Int) := by omega
          clear hk0 hk' hc' hf'
          by_cases hff : f = f'
          · have HBAD : Hid (shp none 0 L = false) := by
              show shp none 0 L = false
              rw [HSA.out, HPV.out, hff]
              simp
            subst hff
            clear CL0
            refine Go.Pin.wp_region_cls (fun y => Below V.heap.size V y) (by kernel_rfl) (by kernel_rfl) ((Below.refl _ _).drew) ?_
            intro Sq fq hNq hRq hSq
            have y0 := fun x => ((HLB.out.below (hRq x)).c0)
            have y1 := fun x => ((HLB.out.below (hRq x)).c1)
            have y3 := fun x => ((HLB.out.below (hRq x)).pb.c3)
            have y4 := fun x => HZ.out (fq x) (hRq x)
            repeat (go_big_quiet_step (fail))
            refine wpQuiet_nil ?_
            intro _ hw'
            obtain ⟨xq, hw''⟩ := hw'
            subst hw''
            have HYq := hRq xq
            generalize fq xq = y at HYq ⊢
            have HYB : Hid (PB q w nm v0 v1 (.slice (some ⟨b, o, none⟩) n cl) y) := HLB.out.pb.below HYq
            clear hRq hSq hNq xq fq Sq y0 y1 y3 y4 HYq
            go_wp2
            go_ret
            exact ⟨by rw [HR.out, HBAD.out]; simp, HYB.out.old⟩
          · have hfb : (f == f') = false := by simpa using hff
            have hfd : decide (f = f') = false := by simpa using hff
            have HGD : Hid (pv L k ≠ some f) := by show pv L k ≠ some f; rw [HPV.out]; simp; exact fun e => hff e.symm
            clear hff
            cases hsl : slB f TS with
            | false =>
              have HBAD : Hid (shp none 0 L = false) := by
                show shp none 0 L = false
                rw [HSA.out]
                simp only [slB] at hsl
                cases h1 : decide (f = 0 ∨ f = 1) <;> cases h2 : TS.all isTok <;> cases h3 : TS.isEmpty <;> simp_all
              rw [hsl] at CL0
              have HCL : Hid _ := CL0
              clear CL0 hsl
              refine Go.Pin.wp_region_cls (fun y => Below V.heap.size V y) (by kernel_rfl) (by kernel_rfl) ((Below.refl _ _).drew) ?_
              intro Sq fq hNq hRq hSq
              have y0 := fun x => ((HLB.out.below (hRq x)).c0)
              have y1 := fun x => ((HLB.out.below (hRq x)).c1)
              have y3 := fun x => ((HLB.out.below (hRq x)).pb.c3)
              have y4 := fun x => HZ.out (fq x) (hRq x)
              have CF := fun x => HCL.out (fq x) (hRq x)
              repeat (go_big_quiet_step (exact (CF _).mono (fun e w' h => ⟨h.1, hSq _ ((hRq _).trans (h.2.mono (hRq _).size))⟩)))
              refine wpQuiet_nil ?_
              intro _ hw'
              obtain ⟨xq, hw''⟩ := hw'
              subst hw''
              have HYq := hRq xq
              generalize fq xq = y at HYq ⊢
              have HYB : Hid (PB q w nm v0 v1 (.slice (some ⟨b, o, none⟩) n cl) y) := HLB.out.pb.below HYq
              clear hRq hSq hNq xq fq Sq y0 y1 y3 y4 HYq CF
              go_wp2
              go_ret
              exact ⟨by rw [HR.out, HBAD.out]; simp, HYB.out.old⟩
            | true =>
              have HON : Hid (shp none 0 L = shp (pv L (k + 1)) (tl L (k + 1)) (L.drop (k + 1)) ∧ 0 < n2) := by
                simp only [slB, Bool.and_eq_true, decide_eq_true_eq] at hsl
                refine ⟨?_, ?_⟩
                · have ha : decide (f = 0 ∨ f = 1) = true := decide_eq_true hsl.1
                  have hb : decide (pv L k ≠ some f) = true := decide_eq_true HGD.out
                  have hd : decide (tl L (k + 1) ≤ 24) = true := decide_eq_true (by rw [HTL.out]; exact HT24.out)
                  rw [HSA.out, ha, hb, hsl.2.2, hd, hsl.2.1]
                  rfl
                · rw [HTS.out.2]
                  exact List.length_pos_iff.2 (by simpa using hsl.2.2)
              rw [hsl] at CL0
              have HCL : Hid _ := CL0
              clear CL0 hsl
              refine Go.Pin.wp_region_cls (fun y => Below V.heap.size V y) (by kernel_rfl) (by kernel_rfl) ((Below.refl _ _).drew) ?_
              intro Sq fq hNq hRq hSq
              have y0 := fun x => ((HLB.out.below (hRq x)).c0)
              have y1 := fun x => ((HLB.out.below (hRq x)).c1)
              have y3 := fun x => ((HLB.out.below (hRq x)).pb.c3)
              have y4 := fun x => HZ.out (fq x) (hRq x)
              have CF := fun x => HCL.out (fq x) (hRq x)
              repeat (go_big_quiet_step (exact (CF _).mono (fun e w' h => ⟨h.1, hSq _ ((hRq _).trans (h.2.mono (hRq _).size))⟩)))
              refine wpQuiet_nil ?_
              intro _ hw'
              obtain ⟨xq, hw''⟩ := hw'
              subst hw''
              have HYq := hRq xq
              generalize fq xq = y at HYq ⊢
              have HYB : Hid (PB q w nm v0 v1 (.slice (some ⟨b, o, none⟩) n cl) y) := HLB.out.pb.below HYq
              clear hRq hSq hNq xq fq Sq y0 y1 y3 y4 HYq CF
              go_wp2
              exact ⟨⟨k + 1, hlt, congrArg (Value.int .i64) (by omega), congrArg (Value.int .i64) (by rw [HTL.out]; omega), by rw [HTL.out]; have := HT24.out; omega, HON.out.1, fun _ => by rw [HTL.out]; have := HON.out.2; omega, HYB.out⟩, by show n - ((k : Int) + 1).toNat < n - ((k : Int)).toNat; omega⟩
    · have b1 : ¬ (k : Int) < (n : Int) := by omega
      have HPW : Hid (PB q w nm v0 v1 (.slice al n cl) wr) := hp
      have hsh : shp none 0 L = true := by
        rw [hs, List.drop_eq_nil_of_le (by rw [HN.out]; omega)]
        rfl
      by_cases h0 : tl L k = 0
      · have g0 : ¬ (0 : Int) < ((tl L k : Nat) : Int) := by omega
        have HE : Hid (L.isEmpty = true) := by
          show L.isEmpty = true
          rw [List.isEmpty_iff]
          have : k = 0 := by omega
          exact List.length_eq_zero_iff.1 (by rw [HN.out]; omega)
        clear h0 hpos hsh hs ht hp hk
        go_wp2
        go_ret
        exact ⟨by rw [HR.out, HE.out]; simp; omega, HPW.out.old⟩
      · have g0 : (0 : Int) < ((tl L k : Nat) : Int) := by omega
        have HE : Hid (L.isEmpty = false ∧ shp none 0 L = true) := by
          refine ⟨?_, hsh⟩
          rw [List.isEmpty_eq_false_iff]
          rintro rfl
          apply h0
          simp [tl]
        clear h0 hpos hsh hs ht hp hk
        go_wp2
        go_ret
        exact ⟨by rw [HR.out, HE.out.1, HE.out.2]; simp; omega, HPW.out.old⟩
end Go.Proofs.YtjhleocpipmklaaDoor
