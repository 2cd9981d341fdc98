import Derived.Test.YtpfidohkohldaaaGreatDoorMqah
namespace Go.Proofs.YtpfidohkohldaaaGreatDoor
set_option linter.unusedSimpArgs false
set_option linter.unusedVariables false
set_option maxRecDepth 100000
open Go.ChangeShapes Go.WideShapes Go.ChangeAt Go.RowKit Go.Pin Go.Pat Go.Deep
theorem getD_at {l : List Int} {i : Nat} (h : i < l.length) : l.getD i 0 = l[i] := by simp [List.getD, h]
def zr : List Bool := List.replicate 9 false
/-- a message's tokens, from a row on -/
def bk (s : Nat) : List Bool → List Int → List Bool × Int
  | r, [] => (r, 0)
  | r, t :: ts => if ofd r s t = 0 then bk s (r.set (lf t s) true) ts else (zr, ofd r s t)
def bhd (s : Nat) (r : List Bool) (ts : List Int) : List Bool × Int :=
  if (bk s r ts).2 ≠ 0 then (zr, (bk s r ts).2) else if sfr (bk s r ts).1 s then ((bk s r ts).1, 0) else (zr, 12)
theorem bk_len (s : Nat) (ts : List Int) : ∀ r : List Bool, r.length = 9 → (bk s r ts).1.length = 9 := by
  induction ts with
  | nil => intro r h; exact h
  | cons t ts ih =>
    intro r h
    unfold bk
    split
    · exact ih _ (by simp [h])
    · rfl
theorem bk_tks (s : Nat) (hs : s < 2) (ts : List Int) (ht : ∀ t ∈ ts, T7 t) : ∀ x : Sn, x.length = 12 → (bk s (nr x) ts).2 = (tks s x ts).2 ∧ ((tks s x ts).2 = 0 → (bk s (nr x) ts).1 = nr (tks s x ts).1) := by
  induction ts with
  | nil => intro x _; exact ⟨rfl, fun _ => rfl⟩
  | cons t ts ih =>
    intro x hx
    obtain ⟨h1, h2⟩ := ofd_tk x hx s hs t (ht t (by simp))
    unfold bk tks
    rw [h1]
    split
    · rename_i h0
      rw [← h2 h0]
      exact ih (fun u hu => ht u (by simp [hu])) _ (by rw [tk_length, hx])
    · rename_i h0
      exact ⟨rfl, fun h => absurd h h0⟩
theorem ofd_isC (r : List Bool) (s : Nat) (t : Int) : ofd r s t = 0 ∨ ofd r s t = 10 ∨ ofd r s t = 11 ∨ ofd r s t = 12 := by
  unfold ofd
  (repeat' split) <;> simp
theorem EV_ne {ea : Int → Addr} {c : Int} (h : c ≠ 0) : EV ea c = .iface 166 (.pointer (some (ea c))) := by unfold EV; rw [if_neg h]
theorem EV_0 (ea : Int → Addr) : EV ea 0 = .nilIface := rfl
theorem bc_size {r : List Bool} (h : r.length = 9) : (Tryz.prog.info? 80).map (·.size) = some (bc r).size := by
  have : (Tryz.prog.info? 80).map (·.size) = some 9 := by kernel_rfl
  rw [this]; simp [bc, h]
theorem bc_one (x : List Bool) : (bc x).all (·.oneCell') = true := by
  simp [Array.all_eq_true, bc, Value.oneCell']
/-- behind's three boxes -/
structure HX3 (n : Nat) (w : World) (s : Nat) (u : Value) (r : List Bool) (wr : World) : Prop where
  old : Below n w wr
  sz : n + 3 ≤ wr.heap.size
  hk : wr.heap[n]? = some (.cells (bc r) 80)
  hl : wr.heap[n + 1]? = some (.cells #[.int .i64 s, u] 43)
  hr : wr.heap[n + 2]? = some (.cells (bc zr) 80)
theorem HX3.below {n : Nat} {w wr w' : World} {s : Nat} {u : Value} {r : List Bool} (h : HX3 n w s u r wr) (hb : Below wr.heap.size wr w') : HX3 n w s u r w' :=
  ⟨h.old.trans (hb.mono (by have := h.sz; omega)), Nat.le_trans h.sz hb.size, (hb.block _ (by have := h.sz; omega)).trans h.hk, (hb.block _ (by have := h.sz; omega)).trans h.hl, (hb.block _ (by have := h.sz; omega)).trans h.hr⟩
theorem HX3.set {n : Nat} {w wr : World} {s : Nat} {u : Value} {r : List Bool} (h : HX3 n w s u r wr) (i : Nat) (b : Bool) : HX3 n w s u (r.set i b) (wr.setCell ⟨n, i, none⟩ (.bool b)) := by
  refine ⟨h.old.setCell (Nat.le_refl _) _, by simpa using h.sz, ?_, (heap_setCell_other _ _ _ _ (by simp)).trans h.hl, (heap_setCell_other _ _ _ _ (by simp)).trans h.hr⟩
  rw [Go.heap_setCell_same _ _ _ _ _ _ h.hk]
  simp [bc]
theorem HX3.l0 {n : Nat} {w wr : World} {s : Nat} {u : Value} {r : List Bool} (h : HX3 n w s u r wr) : wr.cell? ⟨n + 1, 0, none⟩ = some (.int .i64 s) := by rw [cell_of_row _ _ _ _ _ _ h.hl]; rfl
theorem HX3.l1 {n : Nat} {w wr : World} {s : Nat} {u : Value} {r : List Bool} (h : HX3 n w s u r wr) : wr.cell? ⟨n + 1, 1, none⟩ = some u := by rw [cell_of_row _ _ _ _ _ _ h.hl]; rfl
theorem HX3.rc {n : Nat} {w wr : World} {s : Nat} {u : Value} {r : List Bool} (h : HX3 n w s u r wr) {i : Nat} (hi : i < r.length) : wr.cell? ⟨n, i, none⟩ = some (.bool (r.getD i false)) := by
  rw [cell_of_row _ _ _ _ _ _ h.hk]
  simp [bc, List.getD, hi]
theorem HX3.free {n : Nat} {w wr : World} {s : Nat} {u : Value} {r : List Bool} (h : HX3 n w s u r wr) (i : Nat) : wr.frozen? ⟨n, i, none⟩ = false := frozen_of_row _ _ _ _ _ h.hk
theorem HX3.z {n : Nat} {w wr : World} {s : Nat} {u : Value} {r : List Bool} (h : HX3 n w s u r wr) (i : Nat) (hi : i < 9) : HX3 n w s u r (wr.setCell ⟨n + 1 + 1, i, none⟩ (.bool false)) := by
  refine ⟨h.old.setCell (by show n ≤ n + 1 + 1; omega) _, by simpa using h.sz, (heap_setCell_other _ _ _ _ (by simp; omega)).trans h.hk, (heap_setCell_other _ _ _ _ (by simp)).trans h.hl, ?_⟩
  rw [show n + 2 = n + 1 + 1 from rfl, Go.heap_setCell_same _ _ _ _ _ _ h.hr]
  have : (bc zr).setIfInBounds i (.bool false) = bc zr := by
    rcases (by omega : i = 0 ∨ i = 1 ∨ i = 2 ∨ i = 3 ∨ i = 4 ∨ i = 5 ∨ i = 6 ∨ i = 7 ∨ i = 8) with rfl | rfl | rfl | rfl | rfl | rfl | rfl | rfl | rfl <;> rfl
  rw [← this]
  simp
theorem HX3.drew {n : Nat} {w wr : World} {s : Nat} {u : Value} {r : List Bool} (h : HX3 n w s u r wr) : HX3 n w s u r wr.drew := h.below (drew_below (Below.refl _ _))
theorem HX3.zc {n : Nat} {w wr : World} {s : Nat} {u : Value} {r : List Bool} (h : HX3 n w s u r wr) (i : Nat) (hi : i < 9) : wr.cell? ⟨n + 1 + 1, i, none⟩ = some (.bool false) ∧ wr.frozen? ⟨n + 1 + 1, i, none⟩ = false := by
  refine ⟨?_, frozen_of_row _ _ _ _ _ h.hr⟩
  rw [cell_of_row _ _ _ _ _ _ h.hr]
  rcases (by omega : i = 0 ∨ i = 1 ∨ i = 2 ∨ i = 3 ∨ i = 4 ∨ i = 5 ∨ i = 6 ∨ i = 7 ∨ i = 8) with rfl | rfl | rfl | rfl | rfl | rfl | rfl | rfl | rfl <;> rfl
theorem hx3_start (w : World) (s : Nat) (u : Value) (r : List Bool) : HX3 w.heap.size w s u r (((w.alloc (.cells (bc r) 80)).alloc (.cells #[.int .i64 s, u] 43)).alloc (.cells (bc zr) 80)) := by
  refine ⟨(((Below.refl _ _).alloc (Nat.le_refl _) _).alloc (by simp) _).alloc (by simp; omega) _, by simp [size_alloc], ?_, ?_, ?_⟩
  all_goals simp only [heap_alloc_any, size_alloc]
  · rw [if_neg (by omega), if_neg (by omega), if_pos trivial]
  · rw [if_neg (by omega), if_pos trivial]
  · rw [if_pos trivial]
set_option maxHeartbeats 4000000 in
theorem behind_any {ea : Int → Addr} (r : List Bool) (hr : r.length = 9) (s : Nat) (hs : s < 2) (u : Value) (ts : List Int) (ht : ∀ t ∈ ts, T7 t) (w : World) (hu : RdN w u ts) (hE : Errs ea w) :
    Calls Tryz.prog 37 #[rv r, .agg #[.int .i64 s, u]] w fun e w' => e = .returned (.tuple #[rv (bhd s r ts).1, EV ea (bhd s r ts).2]) ∧ Below w.heap.size w w' := by
  obtain ⟨a, cap, rfl, _, hm, _⟩ := id hu
  have hat := hu.at.2.2
  have hst := hx3_start w s (.slice a ts.length cap) r
  obtain ⟨n, hn⟩ : ∃ n, w.heap.size = n := ⟨_, rfl⟩
  obtain ⟨L, hL⟩ : ∃ L, ts.length = L := ⟨_, rfl⟩
  rw [hn, hL] at hst
  rw [hL] at hm hat
  rw [hn] at hat
  obtain ⟨W, hW⟩ : ∃ W, ((w.alloc (.cells (bc r) 80)).alloc (.cells #[.int .i64 s, .slice a L cap] 43)).alloc (.cells (bc zr) 80) = W := ⟨_, rfl⟩
  rw [hW] at hst
  have HS : Hid (HX3 n w s (.slice a L cap) r W) := hst
  have hW' : ((w.alloc (.cells (bc r) 80)).alloc (.cells #[.int .i64 s, .slice a L cap] 43)).alloc (.cells #[.bool false, .bool false, .bool false, .bool false, .bool false, .bool false, .bool false, .bool false, .bool false] 80) = W := hW
  have e : rv r = .agg (bc r) := rfl
  rw [e, hL]
  have HAT : Hid (∀ j, j < L → _) := hat
  have HM : Hid (L ≤ 140737488355328 ∧ ts.length = L) := ⟨hm, hL⟩
  have HE : Hid (∀ y, Below n w y → Errs ea y) := fun y hy => hE.below (by rw [hn]; exact hy)
  have HTT : Hid (∀ t ∈ ts, T7 t) := ht
  obtain ⟨R0, hR0⟩ : ∃ R, bc r = R := ⟨_, rfl⟩
  rw [hR0] at hW'
  rw [hR0]
  have l1 := hst.l1
  clear hst hat hm hE hW e hu ht hL
  go_enter Tryz.func37, Tryz.ntmps37
  go_wp2
  clear l1 hW'
  go_loopw [12] (fun v12 wr => ∃ (i : Nat) (r' : List Bool), i ≤ L ∧ v12 = .int .i64 i ∧ r'.length = 9 ∧ bk s r ts = bk s r' (ts.drop i) ∧ HX3 n w s (.slice a L cap) r' wr) (fun v _ => L - (intOf v).toNat)
  case atStart => exact ⟨0, r, Nat.zero_le _, rfl, hr, rfl, HS.out⟩
  case round =>
    obtain ⟨i, r', hi, rfl, hr', hbk, hx⟩ := hrel
    have HX : Hid (HX3 n w s (.slice a L cap) r' wr) := hx
    have HR : Hid (r'.length = 9) := hr'
    by_cases hlt : i < L
    · have b1 : (i : Int) < (L : Int) := by omega
      have bL : (L : Int) ≤ 140737488355328 := by have := HM.out.1; omega
      obtain ⟨b, o, rfl, hc⟩ := HAT.out i hlt
      have htt : T7 (ts.getD i 0) := HTT.out _ (by rw [getD_at (by rw [HM.out.2]; exact hlt)]; exact List.getElem_mem _)
      obtain ⟨k, hk⟩ : ∃ k : Nat, ts.getD i 0 = (k : Int) := ⟨(ts.getD i 0).toNat, by unfold T7 at htt; omega⟩
      have hk1 : 1 ≤ k ∧ k ≤ 7 := by unfold T7 at htt; omega
      have hdr : ts.drop i = (k : Int) :: ts.drop (i + 1) := by
        rw [List.drop_eq_getElem_cons (by rw [HM.out.2]; exact hlt), ← hk, getD_at (by rw [HM.out.2]; exact hlt)]
      rw [hk] at hc
      have cT := hc wr hx.old
      have l0 := hx.l0
      have CO := offended_any (ea := ea) r' hr' s hs k hk1.1 hk1.2 wr (HE.out wr hx.old)
      rw [show rv r' = .agg (bc r') from rfl] at CO
      have hlf := lf_lt (t := (k : Int)) ⟨by omega, by omega⟩ hs
      obtain ⟨R, hR⟩ : ∃ R, bc r' = R := ⟨_, rfl⟩
      have HRR : Hid (bc r' = R) := hR
      rw [hR] at CO
      have HG : Hid (∀ y, HX3 n w s (.slice (some ⟨b, o, none⟩) L cap) r' y → y.heap[n]? = some (.cells R 80) ∧ (Tryz.prog.info? 80).map (·.size) = some R.size) := fun y hy => by rw [← hR]; exact ⟨hy.hk, bc_size hr'⟩
      have bi : (i : Int) + 1 ≤ 140737488355329 := by omega
      by_cases hc0 : ofd r' s k = 0
      · have HB : Hid (bk s r ts = bk s (r'.set (lf k s) true) (ts.drop (i + 1))) := by
          show bk s r ts = _
          rw [hbk, hdr, bk, if_pos hc0]
        rw [hc0, EV_0] at CO
        have HCO : Hid _ := CO
        clear CO hc0 hbk hdr htt hk hc hR hr' hx hi
        go_upto_region 7 with (first
          | (with_reducible refine at_list ?_; refine wpList_load_row rfl 80 (.tmp 2) rfl n rfl 80 R (0, 0) _ (HG.out _ HX.out).1 Tryz.underlying80 rfl (HG.out _ HX.out).2 ?_)
          | (go_at_call 63; refine Calls.mono HCO.out ?_; rintro e y ⟨rfl, hb⟩; have HY : Hid (HX3 n w s (.slice (some ⟨b, o, none⟩) L cap) r' y) := HX.out.below hb; clear hb l0 cT))
        obtain ⟨l, hl⟩ : ∃ l, lf k s = l := ⟨_, rfl⟩
        rw [hl] at hlf
        have HL : Hid (lf k s = l) := hl
        have rl := rules_at (HE.out y HY.out.old).2.rules k hk1.1 hk1.2 s (.int .i64 l) (by rw [← hl]; rcases (by omega : s = 0 ∨ s = 1) with rfl | rfl <;> rfl)
        have l0 := HY.out.l0
        have cl := HY.out.rc (i := l) (by rw [HR.out]; exact hlf)
        have fl := HY.out.free l
        have bl : (l : Int) < 9 := by omega
        have bk1 : (1 : Int) ≤ k := by omega
        have bk7 : (k : Int) < 8 := by omega
        have bs : (s : Int) < 2 := by omega
        clear hl
        go_region
        have HY2 : Hid (HX3 n w s (.slice (some ⟨b, o, none⟩) L cap) (r'.set l true) (y.setCell ⟨n, l, none⟩ (.bool true)).drew) := (HY.out.set l true).drew
        clear rl l0 cl fl
        go_wp2
        exact ⟨⟨i + 1, _, hlt, congrArg (Value.int .i64) (by omega), by rw [List.length_set]; exact HR.out, by rw [← HL.out]; exact HB.out, HY2.out⟩, by show L - ((i : Int) + 1).toNat < L - ((i : Int)).toNat; omega⟩
      · have HB : Hid ((bk s r ts).2 = ofd r' s k ∧ ofd r' s k ≠ 0) := by
          show (bk s r ts).2 = _ ∧ _
          rw [hbk, hdr, bk, if_neg hc0]
          exact ⟨rfl, hc0⟩
        rw [EV_ne hc0] at CO
        have HCO : Hid _ := CO
        clear CO hc0 hbk hdr htt hk hc hR hr' hx hi
        go_wp2_with (first
          | (with_reducible refine at_list ?_; refine wpList_load_row rfl 80 (.tmp 2) rfl n rfl 80 R (0, 0) _ (HG.out _ HX.out).1 Tryz.underlying80 rfl (HG.out _ HX.out).2 ?_)
          | (go_at_call 63; refine Calls.mono HCO.out ?_; rintro e y ⟨rfl, hb⟩; have HY : Hid (HX3 n w s (.slice (some ⟨b, o, none⟩) L cap) r' y) := HX.out.below hb; clear hb l0 cT)
          | (with_reducible refine at_list ?_; refine wpList_store_row rfl 80 (.tmp 4) (.tmp 23) rfl (n + 2) (bc zr) rfl rfl 80 (bc zr) HY.out.hr (bc_size rfl) rfl (bc_one _) ?_))
        refine bodyPost_ret (v := .tuple #[.agg (bc zr), .iface 166 (.pointer (some (ea (ofd r' s k))))]) ?_ rfl ⟨?_, below_setRow (by rw [hn]; exact HY.out.old) _ (by rw [hn]; omega) _⟩
        · exact results_row_tmp (P := Tryz.prog) (fn := Tryz.f37) (p := 4) (u := 5) (ty := 80) rfl _ _ (n + 2) 80 (bc zr) (0, 0) _ _ rfl (setRow_heap _ _ _ _ 80 _ HY.out.hr) Tryz.underlying80 rfl (bc_size rfl) rfl
        · have hb2 : bhd s r ts = (zr, ofd r' s k) := by
            unfold bhd
            rw [if_pos (by rw [HB.out.1]; exact HB.out.2), HB.out.1]
          rw [hb2, EV_ne HB.out.2]
          rfl
    · have b1 : ¬ (i : Int) < (L : Int) := by omega
      have hdr : ts.drop i = [] := List.drop_eq_nil_of_le (by rw [HM.out.2]; omega)
      have l0 := hx.l0
      have CS := rsafe_any r' hr' s hs wr (HE.out wr hx.old).2
      rw [show rv r' = .agg (bc r') from rfl] at CS
      obtain ⟨R, hR⟩ : ∃ R, bc r' = R := ⟨_, rfl⟩
      rw [hR] at CS
      have HG : Hid (∀ y, HX3 n w s (.slice a L cap) r' y → y.heap[n]? = some (.cells R 80) ∧ (Tryz.prog.info? 80).map (·.size) = some R.size ∧ R.all (·.oneCell') = true) := fun y hy => by rw [← hR]; exact ⟨hy.hk, bc_size hr', bc_one _⟩
      have HB : Hid (bk s r ts = (r', 0) ∧ bc r' = R ∧ R.size = (bc zr).size) := ⟨by rw [hbk, hdr]; rfl, hR, by rw [← hR]; simp [bc, hr', zr]⟩
      clear hbk hdr hR hr' hx hi
      cases hsb : sfr r' s with
      | true =>
        have HSB : Hid (bhd s r ts = (r', 0)) := by
          show bhd s r ts = (r', 0)
          unfold bhd
          rw [HB.out.1, if_neg (by simp), hsb]
          rfl
        rw [hsb] at CS
        have HCS : Hid _ := CS
        clear CS hsb
        go_wp2_with (first
          | (with_reducible refine at_list ?_; refine wpList_load_row rfl 80 (.tmp 2) rfl n rfl 80 R (0, 0) _ (HG.out _ HX.out).1 Tryz.underlying80 rfl (HG.out _ HX.out).2.1 ?_)
          | (go_at_call 38; refine Calls.mono HCS.out ?_; rintro e y ⟨rfl, hb⟩; have HY : Hid (HX3 n w s (.slice a L cap) r' y) := HX.out.below hb; clear hb l0)
          | (with_reducible refine at_list ?_; refine wpList_load_row rfl 80 (.tmp 2) rfl n rfl 80 R (0, 0) _ (HG.out _ HY.out).1 Tryz.underlying80 rfl (HG.out _ HY.out).2.1 ?_)
          | (with_reducible refine at_list ?_; refine wpList_store_row rfl 80 (.tmp 4) (.tmp 41) rfl (n + 2) R rfl rfl 80 (bc zr) HY.out.hr (HG.out _ HY.out).2.1 HB.out.2.2.symm (HG.out _ HY.out).2.2 ?_))
        refine bodyPost_ret (v := .tuple #[.agg R, .nilIface]) ?_ rfl ⟨?_, below_setRow (by rw [hn]; exact HY.out.old) _ (by rw [hn]; omega) _⟩
        · exact results_row_tmp (P := Tryz.prog) (fn := Tryz.f37) (p := 4) (u := 5) (ty := 80) rfl _ _ (n + 2) 80 R (0, 0) _ _ rfl (setRow_heap _ _ _ _ 80 _ HY.out.hr) Tryz.underlying80 rfl (HG.out _ HY.out).2.1 rfl
        · rw [HSB.out, ← HB.out.2.1]
          rfl
      | false =>
        have HSB : Hid (bhd s r ts = (zr, 12)) := by
          show bhd s r ts = (zr, 12)
          unfold bhd
          rw [HB.out.1, if_neg (by simp), hsb]
          rfl
        rw [hsb] at CS
        have HCS : Hid _ := CS
        clear CS hsb
        go_upto_region 10 with (first
          | (with_reducible refine at_list ?_; refine wpList_load_row rfl 80 (.tmp 2) rfl n rfl 80 R (0, 0) _ (HG.out _ HX.out).1 Tryz.underlying80 rfl (HG.out _ HX.out).2.1 ?_)
          | (go_at_call 38; refine Calls.mono HCS.out ?_; rintro e y ⟨rfl, hb⟩; have HY : Hid (HX3 n w s (.slice a L cap) r' y) := HX.out.below hb; clear hb l0))
        have e5 := ((HE.out y HY.out.old).1 12 (by decide)).1
        simp only [eblk] at e5
        obtain ⟨p0, q0⟩ := HY.out.zc 0 (by decide)
        obtain ⟨p1, q1⟩ := HY.out.zc 1 (by decide)
        obtain ⟨p2, q2⟩ := HY.out.zc 2 (by decide)
        obtain ⟨p3, q3⟩ := HY.out.zc 3 (by decide)
        obtain ⟨p4, q4⟩ := HY.out.zc 4 (by decide)
        obtain ⟨p5, q5⟩ := HY.out.zc 5 (by decide)
        obtain ⟨p6, q6⟩ := HY.out.zc 6 (by decide)
        obtain ⟨p7, q7⟩ := HY.out.zc 7 (by decide)
        obtain ⟨p8, q8⟩ := HY.out.zc 8 (by decide)
        have b5 : 3 < n := by
          have h0 := ((HE.out w (Below.refl _ _)).1 12 (by decide)).1
          have := World.block_lt_of_cell? w _ h0
          rw [hn] at this
          exact this
        have n5 : ¬ 3 = n + 1 + 1 := by omega
        have n5' : ¬ n + 1 + 1 = 3 := by omega
        go_region
        have HZ : Hid _ := ((((((((((HY.out.z 0 (by decide)).z 1 (by decide)).z 2 (by decide)).z 3 (by decide)).z 4 (by decide)).z 5 (by decide)).z 6 (by decide)).z 7 (by decide)).z 8 (by decide)).drew)
        clear e5 p0 q0 p1 q1 p2 q2 p3 q3 p4 q4 p5 q5 p6 q6 p7 q7 p8 q8
        generalize World.drew _ = Z at HZ ⊢
        go_wp2
        refine bodyPost_ret (v := .tuple #[.agg (bc zr), .iface 166 (.pointer (some (ea 12)))]) ?_ rfl ⟨?_, by rw [hn]; exact HZ.out.old⟩
        · exact results_row_tmp (P := Tryz.prog) (fn := Tryz.f37) (p := 4) (u := 5) (ty := 80) rfl _ _ (n + 2) 80 (bc zr) (0, 0) _ _ rfl HZ.out.hr Tryz.underlying80 rfl (bc_size rfl) rfl
        · rw [HSB.out]
          rfl
end Go.Proofs.YtpfidohkohldaaaGreatDoor
namespace Go.Proofs.YtpfidohkohldaaaGreatDoor
set_option linter.unusedSimpArgs false
set_option linter.unusedVariables false
set_option maxRecDepth 100000
open Go.ChangeShapes Go.WideShapes Go.ChangeAt Go.RowKit Go.Pin Go.Pat Go.Deep
def ag (s : Nat) (r : List Bool) (l : List Int) : List Bool := l.foldl (fun r t => r.set (lf t s) true) r
theorem ag_len (s : Nat) (l : List Int) : ∀ r : List Bool, (ag s r l).length = r.length := by
  induction l with
  | nil => intro r; rfl
  | cons t l ih => intro r; show (ag s (r.set (lf t s) true) l).length = _; rw [ih, List.length_set]
theorem nr_bg (s : Nat) (hs : s < 2) (l : List Int) (hl : ∀ t ∈ l, t = 1 ∨ t = 2) : ∀ x : Sn, x.length = 12 → nr (bg s x l) = ag s (nr x) l := by
  induction l with
  | nil => intro x _; rfl
  | cons t l ih =>
    intro x hx
    have e1 : bg s x (t :: l) = bg s (if t = 1 then x.set s true else x.set (2 + s) true) l := rfl
    have e2 : ag s (nr x) (t :: l) = ag s ((nr x).set (lf t s) true) l := rfl
    rw [e1, e2, ih (fun u hu => hl u (by simp [hu])) _ (by split <;> simp [hx])]
    congr 1
    obtain ⟨a, b, c, d, e, f, g, i, j, k, l, m, rfl⟩ := twelve' hx
    rcases hl t (by simp) with rfl | rfl
    all_goals rcases (by omega : s = 0 ∨ s = 1) with rfl | rfl
    all_goals rfl
theorem nr_beg (p : Pt) (h0 : ∀ t ∈ p.b0, t = 1 ∨ t = 2) (h1 : ∀ t ∈ p.b1, t = 1 ∨ t = 2) : nr (beg p) = ag 1 (ag 0 zr p.b0) p.b1 := by
  unfold beg
  rw [nr_bg 1 (by decide) _ h1 _ (by rw [bg_length]; rfl), nr_bg 0 (by decide) _ h0 _ rfl]
  rfl
theorem ahd_12 {l : List Int} (h : ahd l = true) : ∀ t ∈ l, t = 1 ∨ t = 2 := by
  match l, h with
  | [], _ => intro t ht; simp at ht
  | [a], h => intro t ht; simp [ahd] at h; simp at ht; omega
  | [a, b], h => intro t ht; simp [ahd] at h; simp at ht; omega
  | _ :: _ :: _ :: _, h => simp [ahd] at h
/-- ahead's row -/
structure HA1 (n : Nat) (w : World) (r : List Bool) (wr : World) : Prop where
  old : Below n w wr
  sz : n + 2 ≤ wr.heap.size
  hr : wr.heap[n + 1]? = some (.cells (bc r) 80)
theorem HA1.set {n : Nat} {w wr : World} {r : List Bool} (h : HA1 n w r wr) (i : Nat) (b : Bool) : HA1 n w (r.set i b) (wr.setCell ⟨n + 1, i, none⟩ (.bool b)) := by
  refine ⟨h.old.setCell (by show n ≤ n + 1; omega) _, by simpa using h.sz, ?_⟩
  rw [Go.heap_setCell_same _ _ _ _ _ _ h.hr]
  simp [bc]
theorem HA1.rc {n : Nat} {w wr : World} {r : List Bool} (h : HA1 n w r wr) {i : Nat} (hi : i < r.length) : wr.cell? ⟨n + 1, i, none⟩ = some (.bool (r.getD i false)) := by
  rw [cell_of_row _ _ _ _ _ _ h.hr]
  simp [bc, List.getD, hi]
theorem HA1.free {n : Nat} {w wr : World} {r : List Bool} (h : HA1 n w r wr) (i : Nat) : wr.frozen? ⟨n + 1, i, none⟩ = false := frozen_of_row _ _ _ _ _ h.hr
/-- the keys of one side, from the j-th round on -/
def agN (p : Pt) : Nat → List Bool
  | 0 => zr
  | 1 => ag 0 zr p.b0
  | _ => ag 1 (ag 0 zr p.b0) p.b1
set_option maxHeartbeats 4000000 in
theorem ahead_row {ea : Int → Addr} (v : Value) (p : Pt) (w : World) (h : RdP w v p) (hb0 : ∀ t ∈ p.b0, t = 1 ∨ t = 2) (hb1 : ∀ t ∈ p.b1, t = 1 ∨ t = 2) (hE : Errs ea w) :
    Calls Tryz.prog 36 #[v] w fun e w' => e = .returned (rv (ag 1 (ag 0 zr p.b0) p.b1)) ∧ Below w.heap.size w w' := by
  obtain ⟨v0, v1, vl, rfl, h0, h1, hl⟩ := h
  obtain ⟨n, hn⟩ : ∃ n, w.heap.size = n := ⟨_, rfl⟩
  obtain ⟨a0, k0, rfl, _, hm0, _⟩ := id h0
  obtain ⟨a1, k1, rfl, _, hm1, _⟩ := id h1
  have hat0 := h0.at.2.2
  have hat1 := h1.at.2.2
  rw [hn] at hat0 hat1
  obtain ⟨L0, hL0⟩ : ∃ L, p.b0.length = L := ⟨_, rfl⟩
  obtain ⟨L1, hL1⟩ : ∃ L, p.b1.length = L := ⟨_, rfl⟩
  rw [hL0] at hat0 hm0
  rw [hL1] at hat1 hm1
  rw [hL0, hL1]
  obtain ⟨nm, hnm⟩ : ∃ nm, p.nm = nm := ⟨_, rfl⟩
  rw [hnm]
  obtain ⟨W, hW⟩ : ∃ W, (w.alloc (.cells #[.string nm, .slice a0 L0 k0, .slice a1 L1 k1, vl] 26)).alloc (.cells (bc zr) 80) = W := ⟨_, rfl⟩
  have hW' : (w.alloc (.cells #[.string nm, .slice a0 L0 k0, .slice a1 L1 k1, vl] 26)).alloc (.cells #[.bool false, .bool false, .bool false, .bool false, .bool false, .bool false, .bool false, .bool false, .bool false] 80) = W := hW
  have hst : HA1 n w zr W := by
    rw [← hW, ← hn]
    refine ⟨((Below.refl _ _).alloc (Nat.le_refl _) _).alloc (by simp) _, by simp [size_alloc], ?_⟩
    simp only [heap_alloc_any, size_alloc]
    rw [if_pos trivial]
  have HS : Hid (HA1 n w zr W) := hst
  have hWp : W.heap[n]? = some (.cells #[.string nm, .slice a0 L0 k0, .slice a1 L1 k1, vl] 26) := by
    rw [← hW, ← hn]
    simp only [heap_alloc_any, size_alloc]
    rw [if_neg (by omega), if_pos trivial]
  have c1 : W.cell? ⟨n, 1, none⟩ = some (.slice a0 L0 k0) := by rw [cell_of_row _ _ _ _ _ _ hWp]; rfl
  have c2 : W.cell? ⟨n, 2, none⟩ = some (.slice a1 L1 k1) := by rw [cell_of_row _ _ _ _ _ _ hWp]; rfl
  have H0 : Hid (∀ j, j < L0 → _) := hat0
  have H1 : Hid (∀ j, j < L1 → _) := hat1
  have HM : Hid (L0 ≤ 140737488355328 ∧ p.b0.length = L0 ∧ L1 ≤ 140737488355328 ∧ p.b1.length = L1) := ⟨hm0, hL0, hm1, hL1⟩
  have HT : Hid ((∀ t ∈ p.b0, t = 1 ∨ t = 2) ∧ ∀ t ∈ p.b1, t = 1 ∨ t = 2) := ⟨hb0, hb1⟩
  have HE : Hid (∀ y, Below n w y → Errs ea y) := fun y hy => hE.below (by rw [hn]; exact hy)
  clear hst hat0 hat1 hm0 hm1 hL0 hL1 hE hW h0 h1 hl hWp hb0 hb1 hnm
  go_enter Tryz.func36, Tryz.ntmps36
  go_wp2
  clear c1 c2 hW'
  go_loopw [9] (fun v9 wr => ∃ j : Nat, j ≤ 2 ∧ v9 = .int .i64 j ∧ HA1 n w (agN p j) wr) (fun v _ => 2 - (intOf v).toNat)
  case atStart => exact ⟨0, Nat.zero_le _, rfl, HS.out⟩
  case round =>
    obtain ⟨j, hj, rfl, hx⟩ := hrel
    have HX : Hid (HA1 n w (agN p j) wr) := hx
    rcases (by omega : j = 0 ∨ j = 1 ∨ j = 2) with hj0 | hj1 | hj2
    · have HJ : Hid (j = 0) := hj0
      have bj : (j : Int) < 2 := by omega
      have hix : ∀ y, (Instr.index 23 (.agg #[.slice a0 L0 k0, .slice a1 L1 k1]) (.int .i64 j)).run Tryz.prog y = .ok (.slice a0 L0 k0) y := fun y => by
        rw [hj0]
        kernel_rfl
      have bL : (L0 : Int) ≤ 140737488355328 := by have := HM.out.1; omega
      clear hx hj hj0
      go_wp2
      clear hix
      go_loopw [15] (fun v15 wr => ∃ (i : Nat) (r' : List Bool), i ≤ L0 ∧ v15 = .int .i64 i ∧ r'.length = 9 ∧ agN p (j + 1) = ag 0 r' (p.b0.drop i) ∧ HA1 n w r' wr) (fun v _ => L0 - (intOf v).toNat)
      case atStart => exact ⟨0, agN p j, Nat.zero_le _, rfl, by rw [HJ.out]; simp [agN, ag_len, zr], by rw [HJ.out]; rfl, HX.out⟩
      case round =>
        obtain ⟨i, r', hi, rfl, hr', hag, hy⟩ := hrel
        by_cases hlt : i < L0
        · have b1 : (i : Int) < (L0 : Int) := by omega
          obtain ⟨b, o, rfl, hc⟩ := H0.out i hlt
          have htt : p.b0.getD i 0 = 1 ∨ p.b0.getD i 0 = 2 := HT.out.1 _ (by rw [getD_at (by rw [HM.out.2.1]; exact hlt)]; exact List.getElem_mem _)
          obtain ⟨k, hk⟩ : ∃ k : Nat, p.b0.getD i 0 = (k : Int) := ⟨(p.b0.getD i 0).toNat, by omega⟩
          have hk1 : 1 ≤ k ∧ k ≤ 7 := by omega
          have hdr : p.b0.drop i = (k : Int) :: p.b0.drop (i + 1) := by
            rw [List.drop_eq_getElem_cons (by rw [HM.out.2.1]; exact hlt), ← hk, getD_at (by rw [HM.out.2.1]; exact hlt)]
          rw [hk] at hc
          have cT := hc _ hy.old
          obtain ⟨l, hl⟩ : ∃ l, lf k 0 = l := ⟨_, rfl⟩
          have hlf := lf_lt (t := (k : Int)) ⟨by omega, by omega⟩ (s := 0) (by decide)
          rw [hl] at hlf
          have HB : Hid (agN p (j + 1) = ag 0 (r'.set l true) (p.b0.drop (i + 1)) ∧ r'.length = 9) := by
            refine ⟨?_, hr'⟩
            rw [hag, hdr, ← hl]
            rfl
          have rl := rules_at (HE.out _ hy.old).2.rules k hk1.1 hk1.2 0 (.int .i64 l) (by rw [← hl]; rfl)
          have rl' := rl
          rw [show (0 : Nat) = j from HJ.out.symm] at rl
          have cl := hy.rc (i := l) (by rw [hr']; exact hlf)
          have fl := hy.free l
          have bl : (l : Int) < 9 := by omega
          have bk1 : (1 : Int) ≤ k := by omega
          have bk7 : (k : Int) < 8 := by omega
          have HY := hy.set l true
          have HYY : Hid _ := HY
          clear hy hr' hag hdr htt hk hc hi hl HY rl'
          go_wp2
          exact ⟨⟨i + 1, _, hlt, congrArg (Value.int .i64) (by omega), by rw [List.length_set]; exact HB.out.2, HB.out.1, HYY.out⟩, by show L0 - ((i : Int) + 1).toNat < L0 - ((i : Int)).toNat; omega⟩
        · have b1 : ¬ (i : Int) < (L0 : Int) := by omega
          have hdr : p.b0.drop i = [] := List.drop_eq_nil_of_le (by rw [HM.out.2.1]; omega)
          rw [hdr] at hag
          rw [show r' = agN p (j + 1) from hag.symm] at hy
          have HYY : Hid _ := hy
          clear hy hr' hag hdr hi
          go_wp2
          exact ⟨⟨j + 1, by have := HJ.out; omega, congrArg (Value.int .i64) (by omega), HYY.out⟩, by show 2 - ((j : Int) + 1).toNat < 2 - ((j : Int)).toNat; have := HJ.out; omega⟩
    · have HJ : Hid (j = 1) := hj1
      have bj : (j : Int) < 2 := by omega
      have hix : ∀ y, (Instr.index 23 (.agg #[.slice a0 L0 k0, .slice a1 L1 k1]) (.int .i64 j)).run Tryz.prog y = .ok (.slice a1 L1 k1) y := fun y => by
        rw [hj1]
        kernel_rfl
      have bL : (L1 : Int) ≤ 140737488355328 := by have := HM.out.2.2.1; omega
      clear hx hj hj1
      go_wp2
      clear hix
      go_loopw [15] (fun v15 wr => ∃ (i : Nat) (r' : List Bool), i ≤ L1 ∧ v15 = .int .i64 i ∧ r'.length = 9 ∧ agN p (j + 1) = ag 1 r' (p.b1.drop i) ∧ HA1 n w r' wr) (fun v _ => L1 - (intOf v).toNat)
      case atStart => exact ⟨0, agN p j, Nat.zero_le _, rfl, by rw [HJ.out]; simp [agN, ag_len, zr], by rw [HJ.out]; rfl, HX.out⟩
      case round =>
        obtain ⟨i, r', hi, rfl, hr', hag, hy⟩ := hrel
        by_cases hlt : i < L1
        · have b1 : (i : Int) < (L1 : Int) := by omega
          obtain ⟨b, o, rfl, hc⟩ := H1.out i hlt
          have htt : p.b1.getD i 0 = 1 ∨ p.b1.getD i 0 = 2 := HT.out.2 _ (by rw [getD_at (by rw [HM.out.2.2.2]; exact hlt)]; exact List.getElem_mem _)
          obtain ⟨k, hk⟩ : ∃ k : Nat, p.b1.getD i 0 = (k : Int) := ⟨(p.b1.getD i 0).toNat, by omega⟩
          have hk1 : 1 ≤ k ∧ k ≤ 7 := by omega
          have hdr : p.b1.drop i = (k : Int) :: p.b1.drop (i + 1) := by
            rw [List.drop_eq_getElem_cons (by rw [HM.out.2.2.2]; exact hlt), ← hk, getD_at (by rw [HM.out.2.2.2]; exact hlt)]
          rw [hk] at hc
          have cT := hc _ hy.old
          obtain ⟨l, hl⟩ : ∃ l, lf k 1 = l := ⟨_, rfl⟩
          have hlf := lf_lt (t := (k : Int)) ⟨by omega, by omega⟩ (s := 1) (by decide)
          rw [hl] at hlf
          have HB : Hid (agN p (j + 1) = ag 1 (r'.set l true) (p.b1.drop (i + 1)) ∧ r'.length = 9) := by
            refine ⟨?_, hr'⟩
            rw [hag, hdr, ← hl]
            rfl
          have rl := rules_at (HE.out _ hy.old).2.rules k hk1.1 hk1.2 1 (.int .i64 l) (by rw [← hl]; rfl)
          have rl' := rl
          rw [show (1 : Nat) = j from HJ.out.symm] at rl
          have cl := hy.rc (i := l) (by rw [hr']; exact hlf)
          have fl := hy.free l
          have bl : (l : Int) < 9 := by omega
          have bk1 : (1 : Int) ≤ k := by omega
          have bk7 : (k : Int) < 8 := by omega
          have HY := hy.set l true
          have HYY : Hid _ := HY
          clear hy hr' hag hdr htt hk hc hi hl HY rl'
          go_wp2
          exact ⟨⟨i + 1, _, hlt, congrArg (Value.int .i64) (by omega), by rw [List.length_set]; exact HB.out.2, HB.out.1, HYY.out⟩, by show L1 - ((i : Int) + 1).toNat < L1 - ((i : Int)).toNat; omega⟩
        · have b1 : ¬ (i : Int) < (L1 : Int) := by omega
          have hdr : p.b1.drop i = [] := List.drop_eq_nil_of_le (by rw [HM.out.2.2.2]; omega)
          rw [hdr] at hag
          rw [show r' = agN p (j + 1) from hag.symm] at hy
          have HYY : Hid _ := hy
          clear hy hr' hag hdr hi
          go_wp2
          exact ⟨⟨j + 1, by have := HJ.out; omega, congrArg (Value.int .i64) (by omega), HYY.out⟩, by show 2 - ((j : Int) + 1).toNat < 2 - ((j : Int)).toNat; have := HJ.out; omega⟩
    · have b1 : ¬ (j : Int) < 2 := by omega
      obtain ⟨R, hR⟩ : ∃ R, bc (ag 1 (ag 0 zr p.b0) p.b1) = R := ⟨_, rfl⟩
      have hl9 : (ag 1 (ag 0 zr p.b0) p.b1).length = 9 := by simp [ag_len, zr]
      have HG : Hid (wr.heap[n + 1]? = some (.cells R 80) ∧ (Tryz.prog.info? 80).map (·.size) = some R.size ∧ R.all (·.oneCell') = true ∧ bc (ag 1 (ag 0 zr p.b0) p.b1) = R) := by
        rw [hj2] at hx
        rw [← hR]
        exact ⟨hx.hr, bc_size hl9, bc_one _, rfl⟩
      clear hx hj hR hl9
      go_wp2_with (first
        | (with_reducible refine at_list ?_; refine wpList_load_row rfl 80 (.tmp 2) rfl (n + 1) rfl 80 R (0, 0) _ HG.out.1 Tryz.underlying80 rfl HG.out.2.1 ?_)
        | (with_reducible refine at_list ?_; refine wpList_store_row rfl 80 (.tmp 2) (.tmp 28) rfl (n + 1) R rfl rfl 80 R HG.out.1 HG.out.2.1 rfl HG.out.2.2.1 ?_))
      refine bodyPost_ret (v := .agg R) ?_ rfl ⟨?_, below_setRow HX.out.old _ (by omega) _⟩
      · exact results_cell_row (P := Tryz.prog) (fn := Tryz.f36) (p := 2) (ty := 80) rfl _ _ (n + 1) 80 R (0, 0) _ rfl (setRow_heap _ _ _ _ 80 _ HG.out.1) Tryz.underlying80 rfl HG.out.2.1
      · rw [← HG.out.2.2.2]
        rfl
end Go.Proofs.YtpfidohkohldaaaGreatDoor
