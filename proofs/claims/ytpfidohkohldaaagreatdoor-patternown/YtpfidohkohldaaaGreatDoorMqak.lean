import Derived.Test.YtpfidohkohldaaaGreatDoorMqaj
import Derived.Test.YtpfidohkohldaaaGreatDoorMqag
namespace Go.Proofs.YtpfidohkohldaaaGreatDoor
set_option linter.unusedSimpArgs false
set_option linter.unusedVariables false
set_option maxRecDepth 100000
open Go.ChangeShapes Go.WideShapes Go.ChangeAt Go.RowKit Go.Pin Go.Pat Go.Deep
/-- the messages, from a row on -/
def pls : List Bool → List Ln → List Bool × Int
  | r, [] => (r, 0)
  | r, (f, ts) :: L => if (bhd f.toNat r ts).2 ≠ 0 then (zr, (bhd f.toNat r ts).2) else pls (bhd f.toNat r ts).1 L
theorem bhd_lns (s : Nat) (hs : s < 2) (ts : List Int) (ht : ∀ t ∈ ts, T7 t) (x : Sn) (hx : x.length = 12) :
    ((tks s x ts).2 ≠ 0 → (bhd s (nr x) ts).2 = (tks s x ts).2) ∧ ((tks s x ts).2 = 0 → sf (tks s x ts).1 s = true → bhd s (nr x) ts = (nr (tks s x ts).1, 0)) ∧ ((tks s x ts).2 = 0 → sf (tks s x ts).1 s = false → bhd s (nr x) ts = (zr, 12)) := by
  obtain ⟨h1, h2⟩ := bk_tks s hs ts ht x hx
  refine ⟨fun h => ?_, fun h hsf => ?_, fun h hsf => ?_⟩
  · unfold bhd
    rw [h1, if_pos h]
  · unfold bhd
    rw [h1, if_neg (by simp [h]), h2 h, sfr_sf _ s hs, hsf]
    rfl
  · unfold bhd
    rw [h1, if_neg (by simp [h]), h2 h, sfr_sf _ s hs, hsf]
    rfl
def LnT (L : List Ln) : Prop := ∀ l ∈ L, (l.1 = 0 ∨ l.1 = 1) ∧ ∀ t ∈ l.2, T7 t
theorem pls_lns (L : List Ln) (hL : LnT L) : ∀ x : Sn, x.length = 12 → (pls (nr x) L).2 = (lns x L).2 ∧ ((lns x L).2 = 0 → (pls (nr x) L).1 = nr (lns x L).1) := by
  induction L with
  | nil => intro x _; exact ⟨rfl, fun _ => rfl⟩
  | cons l L ih =>
    obtain ⟨f, ts⟩ := l
    intro x hx
    obtain ⟨hf, ht⟩ := hL (f, ts) (by simp)
    have hs : f.toNat < 2 := by simp only at hf; omega
    obtain ⟨h1, h2, h3⟩ := bhd_lns f.toNat hs ts ht x hx
    unfold pls lns
    by_cases h0 : (tks f.toNat x ts).2 = 0
    · rw [if_neg (c := (tks f.toNat x ts).2 ≠ 0) (by simp [h0])]
      cases hsf : sf (tks f.toNat x ts).1 f.toNat with
      | true =>
        rw [h2 h0 hsf]
        simp only [ne_eq, not_true, if_false, if_true]
        exact ih (fun l hl => hL l (by simp [hl])) _ (by rw [tks_length, hx])
      | false =>
        rw [h3 h0 hsf]
        simp
    · rw [if_pos (c := (tks f.toNat x ts).2 ≠ 0) h0, h1 h0, if_pos h0]
      exact ⟨rfl, fun h => absurd h h0⟩
/-- Check, by the program's rows -/
theorem chk_pls (p : Pt) (h : shaped p = true) : chk p = if (pls (nr (beg p)) p.ln).2 ≠ 0 then (pls (nr (beg p)) p.ln).2 else if sfr (pls (nr (beg p)) p.ln).1 0 = false then 12 else if oneWay p = false ∧ sfr (pls (nr (beg p)) p.ln).1 1 = false then 12 else 0 := by
  have hL : LnT p.ln := fun l hl => by
    have := (shaped_all h).2.2.2.2 l hl
    exact ⟨this.1, isTok_t7 this.2.2.2⟩
  obtain ⟨h1, h2⟩ := pls_lns p.ln hL (beg p) (beg_length p)
  unfold chk
  rw [if_neg (by simp [h]), h1]
  by_cases h0 : (lns (beg p) p.ln).2 = 0
  · have e0 : ¬ ((lns (beg p) p.ln).2 ≠ 0) := by simp [h0]
    rw [if_neg e0, if_neg e0, h2 h0, sfr_sf _ 0 (by decide), sfr_sf _ 1 (by decide)]
  · rw [if_pos h0, if_pos h0]
theorem bhd_len (s : Nat) (r : List Bool) (ts : List Int) (h : r.length = 9) : (bhd s r ts).1.length = 9 := by
  unfold bhd
  split
  · rfl
  · split
    · exact bk_len s ts r h
    · rfl
def ChkC0 (ea : Int → Addr) : Prop := ∀ (v : Value) (p : Pt) (W : World), Errs ea W → RdP W v p →
  Calls Tryz.prog 18 #[v] W fun e w' => e = .returned (EV ea (chk p)) ∧ Below W.heap.size W w'
/-- Check's boxes: the pattern, the row -/
structure CX (q m : Nat) (w : World) (nm : ByteArray) (v0 v1 vl : Value) (r : List Bool) (wr : World) : Prop where
  pb : PB q w nm v0 v1 vl wr
  ne : q < m
  lt : m < wr.heap.size
  hk : wr.heap[m]? = some (.cells (bc r) 80)
theorem CX.below {q m : Nat} {w wr w' : World} {nm : ByteArray} {v0 v1 vl : Value} {r : List Bool} (h : CX q m w nm v0 v1 vl r wr) (hb : Below wr.heap.size wr w') : CX q m w nm v0 v1 vl r w' :=
  ⟨h.pb.below hb, h.ne, Nat.lt_of_lt_of_le h.lt hb.size, (hb.block _ h.lt).trans h.hk⟩
theorem CX.alloc {q m : Nat} {w wr : World} {nm : ByteArray} {v0 v1 vl : Value} {r : List Bool} (h : CX q m w nm v0 v1 vl r wr) (o : Obj) : CX q m w nm v0 v1 vl r (wr.alloc o) := h.below ((Below.refl _ _).alloc (Nat.le_refl _) _)
theorem CX.put {q m : Nat} {w wr : World} {nm : ByteArray} {v0 v1 vl : Value} {r : List Bool} (h : CX q m w nm v0 v1 vl r wr) (r' : List Bool) : CX q m w nm v0 v1 vl r' (wr.setRow m (bc r')) := by
  have hne := h.ne
  refine ⟨⟨below_setRow h.pb.old _ (by omega) _, by rw [size_setRow]; exact h.pb.lt, (setRow_other _ _ _ _ (by omega)).trans h.pb.row⟩, h.ne, by rw [size_setRow]; exact h.lt, setRow_heap _ _ _ _ _ _ h.hk⟩
set_option maxHeartbeats 4000000 in
theorem pcheck_any {ea : Int → Addr} : ChkC0 ea := by
  intro v p w hE h
  have hsh := fun (W : World) (hW : Below w.heap.size w W) => pshaped_any v p W (h.below hW)
  have how := fun (W : World) (hW : Below w.heap.size w W) => powOne_any v p W (h.below hW)
  have hah := fun (hs : shaped p = true) (W : World) (hW : Below w.heap.size w W) => ahead_row (ea := ea) v p W (h.below hW) (by unfold shaped at hs; simp only [Bool.and_eq_true] at hs; exact ahd_12 hs.1.1.1) (by unfold shaped at hs; simp only [Bool.and_eq_true] at hs; exact ahd_12 hs.1.1.2) (hE.below hW)
  obtain ⟨v0, v1, vl, rfl, h0, h1, hl⟩ := h
  obtain ⟨al, cl, rfl, _, hm, _⟩ := id hl
  have hst := pb_start w p.nm v0 v1 (.slice al p.ln.length cl)
  have hat := fun j (hj : j < p.ln.length) => hl.at hj
  obtain ⟨q, hq⟩ : ∃ q, w.heap.size = q := ⟨_, rfl⟩
  obtain ⟨n, hn⟩ : ∃ n, p.ln.length = n := ⟨_, rfl⟩
  obtain ⟨nm, hnm⟩ : ∃ nm, p.nm = nm := ⟨_, rfl⟩
  simp only [hn, hq, hnm] at hst hat hm hsh how hah ⊢
  obtain ⟨W, hW⟩ : ∃ W, w.alloc (.cells #[.string nm, v0, v1, .slice al n cl] 26) = W := ⟨_, rfl⟩
  rw [hW] at hst
  have HP : Hid (PB q w nm v0 v1 (.slice al n cl) W) := hst
  have HAT : Hid (∀ j, j < n → _) := hat
  have HN : Hid (p.ln.length = n) := hn
  have HM : Hid (n ≤ 140737488355328) := hm
  have HSH : Hid _ := hsh
  have HOW : Hid _ := how
  have HE : Hid (∀ y, Below q w y → Errs ea y) := fun y hy => hE.below (by rw [hq]; exact hy)
  have c0 := hst.c0
  have c1 := hst.c1
  have c2 := hst.c2
  have c3 := hst.c3
  rcases hs : shaped p with _ | _
  · have HR : Hid (chk p = 9) := by show chk p = 9; simp [chk, hs]
    rw [hs] at HSH
    clear hst hat hm hsh how h0 h1 hl hah
    go_enter Tryz.func18, Tryz.ntmps18
    go_upto_region 2 with (go_at_call 35; refine (HSH.out _ HP.out.old).mono ?_; rintro e w' ⟨rfl, hw⟩; have HW : Hid (PB q w nm v0 v1 (.slice al n cl) w') := HP.out.below hw; clear hw)
    have e0 := ((HE.out _ HW.out.old).1 9 (by decide)).1
    simp only [eblk] at e0
    go_wp2
    go_ret
    exact ⟨by rw [HR.out]; rfl, HW.out.old⟩
  rw [hs] at HSH
  have HSP : Hid (LnT p.ln) := fun l hl => ⟨((shaped_all hs).2.2.2.2 l hl).1, isTok_t7 ((shaped_all hs).2.2.2.2 l hl).2.2.2⟩
  have HCK : Hid (chk p = _) := chk_pls p hs
  have hnb : nr (beg p) = ag 1 (ag 0 zr p.b0) p.b1 := nr_beg p (by unfold shaped at hs; simp only [Bool.and_eq_true] at hs; exact ahd_12 hs.1.1.1) (by unfold shaped at hs; simp only [Bool.and_eq_true] at hs; exact ahd_12 hs.1.1.2)
  have hah' := hah hs
  rw [← hnb] at hah'
  obtain ⟨R0, hR0⟩ : ∃ R, bc (nr (beg p)) = R := ⟨_, rfl⟩
  have HAH : Hid (∀ y, Below q w y → Calls Tryz.prog 36 #[.agg #[.string nm, v0, v1, .slice al n cl]] y fun e w' => e = .returned (.agg R0) ∧ Below y.heap.size y w') := by
    rw [← hR0]
    exact hah'
  have HR0 : Hid (bc (nr (beg p)) = R0 ∧ (Tryz.prog.info? 80).map (·.size) = some R0.size ∧ R0.all (·.oneCell') = true ∧ 9 = R0.size) := by
    refine ⟨hR0, ?_, ?_, ?_⟩
    · rw [← hR0]; exact bc_size (nr_len _)
    · rw [← hR0]; exact bc_one _
    · rw [← hR0]; rfl
  clear hst hat hm hsh how h0 h1 hl hah hah' hnb hR0 hs
  go_enter Tryz.func18, Tryz.ntmps18
  go_wp2_with (first
    | (go_at_call 35; refine (HSH.out _ HP.out.old).mono ?_; rintro e w1 ⟨rfl, hw⟩; have HW : Hid (PB q w nm v0 v1 (.slice al n cl) w1) := HP.out.below hw; have d0 := HW.out.c0; have d1 := HW.out.c1; have d2 := HW.out.c2; have d3 := HW.out.c3; clear hw c0 c1 c2 c3)
    | (go_at_call 36; refine (HAH.out _ HW.out.old).mono ?_; rintro e w2 ⟨rfl, hw⟩; have HW2 : Hid (PB q w nm v0 v1 (.slice al n cl) w2) := HW.out.below hw; clear hw d0 d1 d2 d3)
    | (with_reducible refine at_list ?_; refine hold_store 80 (.tmp 3) (.tmp 13) rfl ?_))
  obtain ⟨m, hm⟩ : ∃ m, w2.heap.size = m := ⟨_, rfl⟩
  refine store_row_new rfl 80 (.tmp 3) (.tmp 13) rfl m R0 (by simp only [hm]; rfl) hm.symm rfl 80 _ HR0.out.2.1 HR0.out.2.2.2 HR0.out.2.2.1 ?_
  obtain ⟨V, hV⟩ : ∃ V, w2.alloc (.cells R0 80) = V := ⟨_, rfl⟩
  have HV : Hid (CX q m w nm v0 v1 (.slice al n cl) (nr (beg p)) V) := by
    show CX q m w nm v0 v1 (.slice al n cl) (nr (beg p)) V
    rw [← hV]
    refine ⟨HW2.out.below ((Below.refl _ _).alloc (Nat.le_refl _) _), by have := HW2.out.lt; omega, by rw [size_alloc]; omega, ?_⟩
    rw [HR0.out.1, ← hm]
    exact heap_alloc_new _ _
  rw [hV]
  simp only [hm]
  have d3 := HV.out.pb.c3
  clear hV hm
  go_wp2
  clear d3
  go_loopw [17] (fun v17 wr => ∃ (k : Nat) (r : List Bool), k ≤ n ∧ v17 = .int .i64 k ∧ r.length = 9 ∧ pls (nr (beg p)) p.ln = pls r (p.ln.drop k) ∧ CX q m w nm v0 v1 (.slice al n cl) r wr) (fun v _ => n - (intOf v).toNat)
  case atStart => exact ⟨0, nr (beg p), Nat.zero_le _, rfl, nr_len _, rfl, HV.out⟩
  case round =>
    obtain ⟨k, r, hk, rfl, hr, hpl, hx⟩ := hrel
    have HX : Hid (CX q m w nm v0 v1 (.slice al n cl) r wr) := hx
    obtain ⟨R, hR⟩ : ∃ R, bc r = R := ⟨_, rfl⟩
    have HRR : Hid (bc r = R ∧ (Tryz.prog.info? 80).map (·.size) = some R.size ∧ r.length = 9) := ⟨hR, by rw [← hR]; exact bc_size hr, hr⟩
    by_cases hlt : k < n
    · have b1 : (k : Int) < (n : Int) := by omega
      have bn : (n : Int) ≤ 140737488355328 := by have := HM.out; omega
      obtain ⟨b, o, a2, n2, c2, rfl, hc, hrn, hn2⟩ := HAT.out k hlt
      have x0 := (hc wr hx.pb.old).1
      have x1 := (hc wr hx.pb.old).2
      have hdr : p.ln.drop k = (p.ln.getD k (0, [])) :: p.ln.drop (k + 1) := drop_getD p.ln k (by rw [HN.out]; exact hlt)
      have hmem : p.ln.getD k (0, []) ∈ p.ln := by
        have hk' : k < p.ln.length := by rw [HN.out]; exact hlt
        rw [show p.ln.getD k (0, []) = p.ln[k] by simp [List.getD, hk']]
        exact List.getElem_mem _
      obtain ⟨hf01, htt⟩ := HSP.out _ hmem
      obtain ⟨⟨f, TS⟩, hfT⟩ : ∃ l, p.ln.getD k (0, []) = l := ⟨_, rfl⟩
      rw [hfT] at hdr x0 hrn hn2 hf01 htt
      simp only at x0 hrn hn2 hf01 htt
      obtain ⟨s, hs⟩ : ∃ s : Nat, f = (s : Int) := ⟨f.toNat, by omega⟩
      have hs2 : s < 2 := by omega
      have hfs : f.toNat = s := by omega
      rw [hs] at x0
      have HDR : Hid (p.ln.drop k = (f, TS) :: p.ln.drop (k + 1) ∧ f.toNat = s) := ⟨hdr, hfs⟩
      have CB0 : ∀ y, Below q w y → Calls Tryz.prog 37 #[.agg R, .agg #[.int .i64 s, .slice a2 n2 c2]] y fun e w' => e = .returned (.tuple #[rv (bhd s r TS).1, EV ea (bhd s r TS).2]) ∧ Below y.heap.size y w' := fun y hy => by
        rw [← hR]
        exact behind_any (ea := ea) r hr s hs2 _ TS htt y (hrn.below (by rw [hq]; exact hy)) (HE.out y hy)
      obtain ⟨R2, hR2⟩ : ∃ R, bc (bhd s r TS).1 = R := ⟨_, rfl⟩
      have HR2 : Hid (bc (bhd s r TS).1 = R2 ∧ (Tryz.prog.info? 80).map (·.size) = some R2.size ∧ R2.all (·.oneCell') = true ∧ 9 = R2.size ∧ R2.size = R.size) := by
        have h9 := bhd_len s r TS hr
        refine ⟨hR2, by rw [← hR2]; exact bc_size h9, by rw [← hR2]; exact bc_one _, by rw [← hR2]; simp [bc, h9], by rw [← hR2, ← hR]; simp [bc, h9, hr]⟩
      rw [show rv (bhd s r TS).1 = .agg (bc (bhd s r TS).1) from rfl, hR2] at CB0
      by_cases hb0 : (bhd s r TS).2 = 0
      · have HON : Hid (pls (nr (beg p)) p.ln = pls (bhd s r TS).1 (p.ln.drop (k + 1)) ∧ (bhd s r TS).1.length = 9) := by
          refine ⟨?_, bhd_len s r TS hr⟩
          rw [hpl, hdr, pls, hfs, if_neg (by simp [hb0])]
        rw [hb0, EV_0] at CB0
        have HCB : Hid _ := CB0
        clear CB0 hb0 hpl hdr hmem hfT hrn hn2 hf01 htt hs hfs hc hR hr hR2 hx hk
        go_wp2_with (first
          | (with_reducible refine at_list ?_; refine wpList_load_row rfl 80 (.tmp 3) rfl m rfl 80 R (0, 0) _ (by rw [← HRR.out.1]; exact (HX.out.alloc _).hk) Tryz.underlying80 rfl HRR.out.2.1 ?_)
          | (go_at_call 37; refine (HCB.out _ (HX.out.alloc _).pb.old).mono ?_; rintro e y ⟨rfl, hb⟩; have HY : Hid (CX q m w nm v0 v1 (.slice (some ⟨b, o, none⟩) n cl) r y) := (HX.out.alloc _).below hb; clear hb x0 x1)
          | (with_reducible refine at_list ?_; refine hold_store 80 (.tmp 6) (.tmp 25) rfl ?_))
        obtain ⟨g, hg⟩ : ∃ g, y.heap.size = g := ⟨_, rfl⟩
        refine store_row_new rfl 80 (.tmp 6) (.tmp 25) rfl g R2 (by simp only [hg]; rfl) hg.symm rfl 80 _ HR2.out.2.1 HR2.out.2.2.2.1 HR2.out.2.2.1 ?_
        obtain ⟨V2, hV2⟩ : ∃ V, y.alloc (.cells R2 80) = V := ⟨_, rfl⟩
        have HV2 : Hid (CX q m w nm v0 v1 (.slice (some ⟨b, o, none⟩) n cl) r V2 ∧ V2.heap[g]? = some (.cells R2 80)) := by
          rw [← hV2]
          refine ⟨HY.out.alloc _, ?_⟩
          rw [← hg]
          exact heap_alloc_new _ _
        rw [hV2]
        simp only [hg]
        clear hV2 hg
        go_wp2_with (first
          | (with_reducible refine at_list ?_; refine wpList_load_row rfl 80 (.tmp 6) rfl g rfl 80 R2 (0, 0) _ HV2.out.2 Tryz.underlying80 rfl HR2.out.2.1 ?_)
          | (with_reducible refine at_list ?_; refine hold_store 80 (.tmp 3) (.tmp 30) rfl ?_))
        refine wpList_store_row rfl 80 (.tmp 3) (.tmp 30) rfl m R2 rfl rfl 80 R (by rw [← HRR.out.1]; exact HV2.out.1.hk) HR2.out.2.1 HR2.out.2.2.2.2.symm HR2.out.2.2.1 ?_
        have HV3 : Hid (CX q m w nm v0 v1 (.slice (some ⟨b, o, none⟩) n cl) (bhd s r TS).1 (V2.setRow m R2)) := by
          show CX q m w nm v0 v1 (.slice (some ⟨b, o, none⟩) n cl) (bhd s r TS).1 (V2.setRow m R2)
          rw [← HR2.out.1]
          exact HV2.out.1.put _
        go_wp2
        exact ⟨⟨k + 1, _, hlt, congrArg (Value.int .i64) (by omega), HON.out.2, HON.out.1, HV3.out⟩, by show n - ((k : Int) + 1).toNat < n - ((k : Int)).toNat; omega⟩
      · have HOFF : Hid (chk p = (bhd s r TS).2 ∧ (bhd s r TS).2 ≠ 0) := by
          refine ⟨?_, hb0⟩
          rw [HCK.out, hpl, hdr, pls, hfs, if_pos hb0, if_pos hb0]
        rw [EV_ne hb0] at CB0
        have HCB : Hid _ := CB0
        clear CB0 hb0 hpl hdr hmem hfT hrn hn2 hf01 htt hs hfs hc hR hr hR2 hx hk
        go_wp2_with (first
          | (with_reducible refine at_list ?_; refine wpList_load_row rfl 80 (.tmp 3) rfl m rfl 80 R (0, 0) _ (by rw [← HRR.out.1]; exact (HX.out.alloc _).hk) Tryz.underlying80 rfl HRR.out.2.1 ?_)
          | (go_at_call 37; refine (HCB.out _ (HX.out.alloc _).pb.old).mono ?_; rintro e y ⟨rfl, hb⟩; have HY : Hid (CX q m w nm v0 v1 (.slice (some ⟨b, o, none⟩) n cl) r y) := (HX.out.alloc _).below hb; clear hb x0 x1)
          | (with_reducible refine at_list ?_; refine hold_store 80 (.tmp 6) (.tmp 25) rfl ?_))
        obtain ⟨g, hg⟩ : ∃ g, y.heap.size = g := ⟨_, rfl⟩
        refine store_row_new rfl 80 (.tmp 6) (.tmp 25) rfl g R2 (by simp only [hg]; rfl) hg.symm rfl 80 _ HR2.out.2.1 HR2.out.2.2.2.1 HR2.out.2.2.1 ?_
        obtain ⟨V2, hV2⟩ : ∃ V, y.alloc (.cells R2 80) = V := ⟨_, rfl⟩
        have HV2 : Hid (CX q m w nm v0 v1 (.slice (some ⟨b, o, none⟩) n cl) r V2 ∧ V2.heap[g]? = some (.cells R2 80)) := by
          rw [← hV2]
          refine ⟨HY.out.alloc _, ?_⟩
          rw [← hg]
          exact heap_alloc_new _ _
        rw [hV2]
        simp only [hg]
        clear hV2 hg
        go_wp2
        go_ret
        exact ⟨by rw [HOFF.out.1, EV_ne HOFF.out.2]; rfl, HV2.out.1.pb.old⟩
    · have b1 : ¬ (k : Int) < (n : Int) := by omega
      have hpr : pls (nr (beg p)) p.ln = (r, 0) := by
        rw [hpl, List.drop_eq_nil_of_le (by rw [HN.out]; omega)]
        rfl
      have hck := HCK.out
      rw [hpr, if_neg (by simp)] at hck
      simp only at hck
      have CS0 : ∀ (s : Nat), s < 2 → ∀ y, Below q w y → Calls Tryz.prog 38 #[.agg R, .int .i64 s] y fun e w' => e = .returned (.bool (sfr r s)) ∧ Below y.heap.size y w' := fun s hs y hy => by
        rw [← hR]
        exact rsafe_any r hr s hs y (HE.out y hy).2
      have C0 : ∀ y, Below q w y → Calls Tryz.prog 38 #[.agg R, .int .i64 0] y fun e w' => e = .returned (.bool (sfr r 0)) ∧ Below y.heap.size y w' := CS0 0 (by decide)
      have C1 : ∀ y, Below q w y → Calls Tryz.prog 38 #[.agg R, .int .i64 1] y fun e w' => e = .returned (.bool (sfr r 1)) ∧ Below y.heap.size y w' := CS0 1 (by decide)
      obtain ⟨s0, hs0⟩ : ∃ b, sfr r 0 = b := ⟨_, rfl⟩
      obtain ⟨s1, hs1⟩ : ∃ b, sfr r 1 = b := ⟨_, rfl⟩
      obtain ⟨ow, how⟩ : ∃ b, oneWay p = b := ⟨_, rfl⟩
      rw [hs0] at C0 hck
      rw [hs1] at C1 hck
      rw [how] at hck HOW
      have HC0 : Hid _ := C0
      have HC1 : Hid _ := C1
      have HCK2 : Hid (chk p = if s0 = false then 12 else if ow = false ∧ s1 = false then 12 else 0) := hck
      have d0 := hx.pb.c0
      have d1 := hx.pb.c1
      have d2 := hx.pb.c2
      have d3 := hx.pb.c3
      clear hpl hpr hck CS0 C0 C1 hs0 hs1 how hR hr hx hk
      cases s0 with
      | false =>
        go_upto_region 13 with (first
          | (with_reducible refine at_list ?_; refine wpList_load_row rfl 80 (.tmp 3) rfl m rfl 80 R (0, 0) _ (by rw [← HRR.out.1]; exact HX.out.hk) Tryz.underlying80 rfl HRR.out.2.1 ?_)
          | (go_at_call 38; refine (HC0.out _ HX.out.pb.old).mono ?_; rintro e y ⟨rfl, hb⟩; have HY : Hid (CX q m w nm v0 v1 (.slice al n cl) r y) := HX.out.below hb; clear hb d0 d1 d2 d3))
        have e5 := ((HE.out _ HY.out.pb.old).1 12 (by decide)).1
        simp only [eblk] at e5
        go_wp2
        go_ret
        exact ⟨by rw [HCK2.out]; rfl, HY.out.pb.old⟩
      | true =>
        cases ow with
        | true =>
          go_wp2_with (first
            | (with_reducible refine at_list ?_; refine wpList_load_row rfl 80 (.tmp 3) rfl m rfl 80 R (0, 0) _ (by rw [← HRR.out.1]; exact HX.out.hk) Tryz.underlying80 rfl HRR.out.2.1 ?_)
            | (go_at_call 38; refine (HC0.out _ HX.out.pb.old).mono ?_; rintro e y ⟨rfl, hb⟩; have HY : Hid (CX q m w nm v0 v1 (.slice al n cl) r y) := HX.out.below hb; have f0 := HY.out.pb.c0; have f1 := HY.out.pb.c1; have f2 := HY.out.pb.c2; have f3 := HY.out.pb.c3; clear hb d0 d1 d2 d3)
            | (go_at_call 39; refine (HOW.out _ HY.out.pb.old).mono ?_; rintro e y2 ⟨rfl, hb⟩; have HY2 : Hid (CX q m w nm v0 v1 (.slice al n cl) r y2) := HY.out.below hb; clear hb f0 f1 f2 f3))
          go_ret
          exact ⟨by rw [HCK2.out, if_neg (by simp), if_neg (by simp)]; rfl, HY2.out.pb.old⟩
        | false =>
          cases s1 with
          | true =>
            go_wp2_with (first
              | (with_reducible refine at_list ?_; refine wpList_load_row rfl 80 (.tmp 3) rfl m rfl 80 R (0, 0) _ (by rw [← HRR.out.1]; exact HX.out.hk) Tryz.underlying80 rfl HRR.out.2.1 ?_)
              | (go_at_call 38; have HQQ := d0; refine (HC0.out _ HX.out.pb.old).mono ?_; rintro e y ⟨rfl, hb⟩; have HY : Hid (CX q m w nm v0 v1 (.slice al n cl) r y) := HX.out.below hb; have f0 := HY.out.pb.c0; have f1 := HY.out.pb.c1; have f2 := HY.out.pb.c2; have f3 := HY.out.pb.c3; clear hb d0 d1 d2 d3 HQQ)
              | (go_at_call 39; refine (HOW.out _ HY.out.pb.old).mono ?_; rintro e y2 ⟨rfl, hb⟩; have HY2 : Hid (CX q m w nm v0 v1 (.slice al n cl) r y2) := HY.out.below hb; clear hb f0 f1 f2 f3)
              | (with_reducible refine at_list ?_; refine load_row_w (by kernel_rfl) 80 (.tmp 3) rfl m rfl 80 R (0, 0) _ (by rw [← HRR.out.1]; exact HY2.out.hk) Tryz.underlying80 rfl HRR.out.2.1 ?_)
              | (go_at_call 38; refine (HC1.out _ HY2.out.pb.old).mono ?_; rintro e y3 ⟨rfl, hb⟩; have HY3 : Hid (CX q m w nm v0 v1 (.slice al n cl) r y3) := HY2.out.below hb; clear hb))
            go_ret
            exact ⟨by rw [HCK2.out, if_neg (by simp), if_neg (by simp)]; rfl, HY3.out.pb.old⟩
          | false =>
            go_upto_region 13 with (first
              | (with_reducible refine at_list ?_; refine wpList_load_row rfl 80 (.tmp 3) rfl m rfl 80 R (0, 0) _ (by rw [← HRR.out.1]; exact HX.out.hk) Tryz.underlying80 rfl HRR.out.2.1 ?_)
              | (go_at_call 38; have HQQ := d0; refine (HC0.out _ HX.out.pb.old).mono ?_; rintro e y ⟨rfl, hb⟩; have HY : Hid (CX q m w nm v0 v1 (.slice al n cl) r y) := HX.out.below hb; have f0 := HY.out.pb.c0; have f1 := HY.out.pb.c1; have f2 := HY.out.pb.c2; have f3 := HY.out.pb.c3; clear hb d0 d1 d2 d3 HQQ)
              | (go_at_call 39; refine (HOW.out _ HY.out.pb.old).mono ?_; rintro e y2 ⟨rfl, hb⟩; have HY2 : Hid (CX q m w nm v0 v1 (.slice al n cl) r y2) := HY.out.below hb; clear hb f0 f1 f2 f3)
              | (with_reducible refine at_list ?_; refine load_row_w (by kernel_rfl) 80 (.tmp 3) rfl m rfl 80 R (0, 0) _ (by rw [← HRR.out.1]; exact HY2.out.hk) Tryz.underlying80 rfl HRR.out.2.1 ?_)
              | (go_at_call 38; refine (HC1.out _ HY2.out.pb.old).mono ?_; rintro e y3 ⟨rfl, hb⟩; have HY3 : Hid (CX q m w nm v0 v1 (.slice al n cl) r y3) := HY2.out.below hb; clear hb))
            have e5 := ((HE.out _ HY3.out.pb.old).1 12 (by decide)).1
            simp only [eblk] at e5
            go_wp2
            go_ret
            exact ⟨by rw [HCK2.out, if_neg (by simp), if_pos (by simp)]; rfl, HY3.out.pb.old⟩
end Go.Proofs.YtpfidohkohldaaaGreatDoor
/- texts of the form, whatever Check says of them -/
namespace Go.Pat
structure Fm (p : Pt) : Prop where
  nm : isNm p.nm = true
  b0 : ∀ t ∈ p.b0, T7 t
  b1 : ∀ t ∈ p.b1, T7 t
  ln : ∀ x ∈ p.ln, (x.1 = 0 ∨ x.1 = 1) ∧ x.2 ≠ [] ∧ ∀ t ∈ x.2, T7 t
def Tx (p : Pt) : List UInt8 := JL ((rP p).map toL)
theorem prs_form {p : Pt} {t : ByteArray} (hf : Fm p) (ht : toL t = Tx p) (hz : t.size ≤ 4096) : prs t = if chk p ≠ 0 then (zPt, chk p) else (p, 0) := by
  have hnm := hf.nm
  have hT := hf.ln
  have hb : (∀ t ∈ p.b0, T7 t) ∧ ∀ t ∈ p.b1, T7 t := ⟨hf.b0, hf.b1⟩
  have hbn : ∀ (side : Int) (l : List Int), (∀ t ∈ l, T7 t) → ∀ a ∈ bR side l, NL (toL a) := fun side l hl a ha => by
    unfold bR at ha
    split at ha
    · simp at ha
    · rw [List.mem_singleton.1 ha]; exact rt_nl _ _ hl
  have hr : rws t = (rP p, t.size) := rws_join ht (fun a ha => by
    unfold rP at ha
    simp only [List.mem_cons, List.mem_append, List.mem_map] at ha
    rcases ha with rfl | ((ha | ha) | ha) | ⟨x, hx, rfl⟩
    · exact isNm_nl hnm
    · exact hbn _ _ hb.1 a ha
    · exact hbn _ _ hb.2 a ha
    · unfold dR at ha
      split at ha
      · rw [List.mem_singleton.1 ha]; unfold NL; decide
      · simp at ha
    · exact rt_nl _ _ (hT x hx).2.2)
  obtain ⟨k1, k2⟩ := hd_ok hnm
  have hlr : ∀ a ∈ p.ln.map (fun x => rt x.1 x.2), a ≠ dotR := fun a ha => by
    obtain ⟨x, _, rfl⟩ := List.mem_map.1 ha
    exact rt_dot _ _
  have hbr : ∀ a ∈ bR 0 p.b0 ++ bR 1 p.b1, a ≠ dotR := fun a ha => by
    rcases List.mem_append.1 ha with ha | ha
    · exact bR_dot _ _ a ha
    · exact bR_dot _ _ a ha
  have hg0 : (rP p).getD 0 ⟨#[]⟩ = hd p.nm := rfl
  have hd1 : (rP p).drop 1 = bR 0 p.b0 ++ bR 1 p.b1 ++ dR p.b0 p.b1 ++ p.ln.map fun x => rt x.1 x.2 := rfl
  have hp : (⟨p.nm, p.b0, p.b1, p.ln⟩ : Pt) = p := by cases p; rfl
  have main : bfr (((rP p).take (frm (rP p) - 1)).drop 1) [] [] = some (p.b0, p.b1) ∧ frm (rP p) ≠ 2 ∧ mls ((rP p).drop (frm (rP p))) = some p.ln := by
    by_cases hpos : 0 < p.b0.length + p.b1.length
    · have e : rP p = hd p.nm :: ((bR 0 p.b0 ++ bR 1 p.b1) ++ [dotR] ++ p.ln.map fun x => rt x.1 x.2) := by
        unfold rP dR
        rw [if_pos hpos]
      obtain ⟨h1, h2, h3⟩ := rows_dots (hd p.nm) (bR 0 p.b0 ++ bR 1 p.b1) (p.ln.map fun x => rt x.1 x.2) hbr
      rw [← e] at h1 h2 h3
      have hl : 0 < (bR 0 p.b0 ++ bR 1 p.b1).length := by
        rw [List.length_append]
        rcases Nat.lt_or_ge 0 p.b0.length with h | h
        · have := (bR_len 0 p.b0).2 h; omega
        · have := (bR_len 1 p.b1).2 (by omega); omega
      rw [h1]
      refine ⟨?_, by omega, ?_⟩
      · rw [show (bR 0 p.b0 ++ bR 1 p.b1).length + 2 - 1 = (bR 0 p.b0 ++ bR 1 p.b1).length + 1 from rfl, h2]
        exact bfr_fwd _ _ hb.1 hb.2
      · rw [h3]
        exact mls_fwd _ hT
    · have e0 : p.b0 = [] := List.length_eq_zero_iff.1 (by omega)
      have e1 : p.b1 = [] := List.length_eq_zero_iff.1 (by omega)
      have e : rP p = hd p.nm :: (p.ln.map fun x => rt x.1 x.2) := by
        unfold rP dR
        rw [if_neg hpos, e0, e1]
        rfl
      have h1 := rows_plain (hd p.nm) _ hlr
      rw [← e] at h1
      rw [h1]
      refine ⟨by rw [e0, e1]; rfl, by omega, ?_⟩
      rw [e, List.drop_succ_cons, List.drop_zero]
      exact mls_fwd _ hT
  unfold prs
  rw [if_neg (by omega), hr, if_neg (by simp [rP]), hg0, k1, if_neg (by simp), main.1]
  simp only
  rw [if_neg main.2.1, main.2.2]
  simp only
  rw [k2, hp]
theorem bfr_t7 : ∀ (R : List ByteArray) (c0 c1 b0 b1 : List Int), (∀ t ∈ c0, T7 t) → (∀ t ∈ c1, T7 t) → bfr R c0 c1 = some (b0, b1) → (∀ t ∈ b0, T7 t) ∧ ∀ t ∈ b1, T7 t
  | [], c0, c1, b0, b1, h0, h1, h => by simp [bfr] at h; obtain ⟨rfl, rfl⟩ := h; exact ⟨h0, h1⟩
  | r :: R, c0, c1, b0, b1, h0, h1, h => by
    unfold bfr at h
    cases hl : lin r with
    | none => rw [hl] at h; simp at h
    | some x =>
      obtain ⟨f, l⟩ := x
      rw [hl] at h
      have ht := (lin_bck hl).2.2.1
      simp only at h
      split at h
      · split at h
        · simp at h
        · exact bfr_t7 R _ _ _ _ ht h1 h
      · split at h
        · simp at h
        · exact bfr_t7 R _ _ _ _ h0 ht h
theorem mls_t7 : ∀ (R : List ByteArray) (L : List Ln), mls R = some L → ∀ x ∈ L, (x.1 = 0 ∨ x.1 = 1) ∧ x.2 ≠ [] ∧ ∀ t ∈ x.2, T7 t
  | [], L, h => by simp [mls] at h; subst h; intro x hx; simp at hx
  | r :: R, L, h => by
    unfold mls at h
    cases hl : lin r with
    | none => rw [hl] at h; simp at h
    | some y =>
      obtain ⟨f, l⟩ := y
      rw [hl] at h
      simp only [Option.map_eq_some_iff] at h
      obtain ⟨L', h1, rfl⟩ := h
      intro x hx
      rcases List.mem_cons.1 hx with rfl | hx
      · have := lin_bck hl; exact ⟨this.1, this.2.1, this.2.2.1⟩
      · exact mls_t7 R L' h1 x hx
/-- a text that is of no pattern's form -/
theorem prs_noform {t : ByteArray} (h : ∀ p, Fm p → toL t ≠ Tx p) : prs t = (zPt, 8) := by
  unfold prs
  split
  · rfl
  rename_i hz
  split
  · rfl
  rename_i hr
  split
  · rfl
  rename_i hh
  have hr2 : (rws t).2 = t.size ∧ (rws t).1.length ≠ 0 := by
    refine ⟨?_, fun e => hr (.inr e)⟩
    by_cases e : (rws t).2 = t.size
    · exact e
    · exact absurd (.inl e) hr
  obtain ⟨hj, hnl⟩ := rws_back hr2.1
  obtain ⟨R, hR⟩ : ∃ R, (rws t).1 = R := ⟨_, rfl⟩
  rw [hR] at hh hr2 hj hnl ⊢
  cases R with
  | nil => exact absurd rfl hr2.2
  | cons r0 Rs =>
    have hg : (r0 :: Rs).getD 0 ⟨#[]⟩ = r0 := rfl
    rw [hg] at hh ⊢
    obtain ⟨k1, k2⟩ := hd_bck (by simpa using hh)
    obtain ⟨nm, hnm⟩ : ∃ nm, r0.extract 0 (r0.size - 1) = nm := ⟨_, rfl⟩
    rw [hnm] at k1 k2 ⊢
    cases hb : bfr (((r0 :: Rs).take (frm (r0 :: Rs) - 1)).drop 1) [] [] with
    | none => rfl
    | some x =>
      obtain ⟨b0, b1⟩ := x
      simp only
      split
      · rfl
      rename_i h2
      cases hm : mls ((r0 :: Rs).drop (frm (r0 :: Rs))) with
      | none => rfl
      | some ls =>
        exfalso
        have hbt := bfr_t7 _ _ _ _ _ (fun t ht => by simp at ht) (fun t ht => by simp at ht) hb
        have hmt := mls_t7 _ _ hm
        have hrow : r0 :: Rs = rP ⟨nm, b0, b1, ls⟩ := by
          rcases frmL_bck Rs 1 with ⟨e1, e2⟩ | ⟨B, C, e1, e2, e3⟩
          · have hf : frm (r0 :: Rs) = 1 := e1
            rw [hf] at hb hm
            have eb : (b0, b1) = (([] : List Int), ([] : List Int)) := by
              have : bfr (((r0 :: Rs).take (1 - 1)).drop 1) [] [] = some ([], []) := rfl
              rw [this] at hb
              injection hb with hb
              exact hb.symm
            injection eb with eb0 eb1
            subst eb0 eb1
            have := mls_bck _ _ hm
            rw [List.drop_succ_cons, List.drop_zero] at this
            rw [this, ← k2]
            rfl
          · subst e1
            obtain ⟨g1, g2, g3⟩ := rows_dots r0 B C e2
            have ea : B ++ dotR :: C = B ++ [dotR] ++ C := by simp
            rw [ea] at hb hm h2 ⊢
            rw [g1] at hb hm h2
            rw [show B.length + 2 - 1 = B.length + 1 from rfl, g2] at hb
            rw [g3] at hm
            have hB := bfr_bck _ _ _ hb
            have hC := mls_bck _ _ hm
            have hl : 0 < B.length := by omega
            have hpos : 0 < b0.length + b1.length := by
              rw [hB, List.length_append] at hl
              rcases Nat.lt_or_ge 0 (bR 0 b0).length with h | h
              · have := (bR_len 0 b0).1 h; omega
              · have := (bR_len 1 b1).1 (by omega); omega
            unfold rP dR
            simp only
            rw [if_pos hpos, ← hB, ← hC, k2]
        exact h ⟨nm, b0, b1, ls⟩ ⟨k1, hbt.1, hbt.2, hmt⟩ (by rw [hj, hrow]; rfl)
end Go.Pat
