import Derived.BigQuiet
import Derived.Deep.QuietTactic
import Derived.Deep.RegionHeld3
import Derived.Deep.MidRow
import Derived.Deep.Upon
import Derived.Test.YtjhleocpipmklaaDoorMjaq
import Derived.Test.YtjhleocpipmklaaDoorMjaa
import Derived.Test.YtjhleocpipmklaaDoorMjam
import Derived.Test.YtjhleocpipmklaaDoorMjah
import Derived.Test.YtjhleocpipmklaaDoorMjai
namespace Go.Proofs.YtjhleocpipmklaaDoor
set_option linter.unusedSimpArgs false
set_option linter.unusedVariables false
set_option maxRecDepth 100000
open Go.ChangeShapes Go.WideShapes Go.ChangeAt Go.RowKit Go.Pin Go.Pat Go.Deep
/-- the messages, from a row on -/
def pls : List Bool → List Ln → List Bool × Int
  | r, [] => (r, 0)
  | r, (f, ts) :: L => if (bhd f.toNat r ts).2 ≠ 0 then (zr, (bhd f.toNat r ts).2) else pls (bhd f.toNat r ts).1 L
theorem bhd_lns (s : Nat) (hs : s < 2) (ts : List Int) (ht : ∀ t ∈ ts, T7 t) (x : Sn) (hx : x.length = 12) :
    ((tks s x ts).2 ≠ 0 → (bhd s (nr x) ts).2 = (tks s x ts).2) ∧ ((tks s x ts).2 = 0 → sf (tks s x ts).1 s = true → bhd s (nr x) ts = (nr (tks s x ts).1, 0)) ∧ ((tks s x ts).2 = 0 → sf (tks s x ts).1 s = false → bhd s (nr x) ts = (zr, 12)) := by
  obtain ⟨h1, h2⟩ := bk_tks s hs ts ht x hx
  refine ⟨fun h => ?_, fun h hsf => ?_, fun h hsf => ?_⟩
  · unfold bhd
    rw [h1, if_pos h]
  · unfold bhd
    rw [h1, if_neg (by simp [h]), h2 h, sfr_sf _ s hs, hsf]
    rfl
  · unfold bhd
    rw [h1, if_neg (by simp [h]), h2 h, sfr_sf _ s hs, hsf]
    rfl
def LnT (L : List Ln) : Prop := ∀ l ∈ L, (l.1 = 0 ∨ l.1 = 1) ∧ ∀ t ∈ l.2, T7 t
theorem pls_lns (L : List Ln) (hL : LnT L) : ∀ x : Sn, x.length = 12 → (pls (nr x) L).2 = (lns x L).2 ∧ ((lns x L).2 = 0 → (pls (nr x) L).1 = nr (lns x L).1) := by
  induction L with
  | nil => intro x _; exact ⟨rfl, fun _ => rfl⟩
  | cons l L ih =>
    obtain ⟨f, ts⟩ := l
    intro x hx
    obtain ⟨hf, ht⟩ := hL (f, ts) (by simp)
    have hs : f.toNat < 2 := by simp only at hf; omega
    obtain ⟨h1, h2, h3⟩ := bhd_lns f.toNat hs ts ht x hx
    unfold pls lns
    by_cases h0 : (tks f.toNat x ts).2 = 0
    · rw [if_neg (c := (tks f.toNat x ts).2 ≠ 0) (by simp [h0])]
      cases hsf : sf (tks f.toNat x ts).1 f.toNat with
      | true =>
        rw [h2 h0 hsf]
        simp only [ne_eq, not_true, if_false, if_true]
        exact ih (fun l hl => hL l (by simp [hl])) _ (by rw [tks_length, hx])
      | false =>
        rw [h3 h0 hsf]
        simp
    · rw [if_pos (c := (tks f.toNat x ts).2 ≠ 0) h0, h1 h0, if_pos h0]
      exact ⟨rfl, fun h => absurd h h0⟩
/-- Check, by the program's rows -/
theorem chk_pls (p : Pt) (h : shaped p = true) : chk p = if (pls (nr (beg p)) p.ln).2 ≠ 0 then (pls (nr (beg p)) p.ln).2 else if sfr (pls (nr (beg p)) p.ln).1 0 = false then 12 else if oneWay p = false ∧ sfr (pls (nr (beg p)) p.ln).1 1 = false then 12 else 0 := by
  have hL : LnT p.ln := fun l hl => by
    have := (shaped_all h).2.2.2.2 l hl
    exact ⟨this.1, isTok_t7 this.2.2.2⟩
  obtain ⟨h1, h2⟩ := pls_lns p.ln hL (beg p) (beg_length p)
  unfold chk
  rw [if_neg (by simp [h]), h1]
  by_cases h0 : (lns (beg p) p.ln).2 = 0
  · have e0 : ¬ ((lns (beg p) p.ln).2 ≠ 0) := by simp [h0]
    rw [if_neg e0, if_neg e0, h2 h0, sfr_sf _ 0 (by decide), sfr_sf _ 1 (by decide)]
  · rw [if_pos h0, if_pos h0]
theorem bhd_len (s : Nat) (r : List Bool) (ts : List Int) (h : r.length = 9) : (bhd s r ts).1.length = 9 := by
  unfold bhd
  split
  · rfl
  · split
    · exact bk_len s ts r h
    · rfl
def ChkC0 (ea : Int → Addr) : Prop := ∀ (v : Value) (p : Pt) (W : World), Errs ea W → RdP W v p →
  Calls Tryd.prog 17 #[v] W fun e w' => e = .returned (EV ea (chk p)) ∧ Below W.heap.size W w'
/-- Check's boxes: the pattern, the row -/
structure CX (q m : Nat) (w : World) (nm : ByteArray) (v0 v1 vl : Value) (r : List Bool) (wr : World) : Prop where
  pb : PB q w nm v0 v1 vl wr
  ne : q < m
  lt : m < wr.heap.size
  hk : wr.heap[m]? = some (.cells (bc r) 69)
theorem CX.below {q m : Nat} {w wr w' : World} {nm : ByteArray} {v0 v1 vl : Value} {r : List Bool} (h : CX q m w nm v0 v1 vl r wr) (hb : Below wr.heap.size wr w') : CX q m w nm v0 v1 vl r w' :=
  ⟨h.pb.below hb, h.ne, Nat.lt_of_lt_of_le h.lt hb.size, (hb.block _ h.lt).trans h.hk⟩
theorem CX.alloc {q m : Nat} {w wr : World} {nm : ByteArray} {v0 v1 vl : Value} {r : List Bool} (h : CX q m w nm v0 v1 vl r wr) (o : Obj) : CX q m w nm v0 v1 vl r (wr.alloc o) := h.below ((Below.refl _ _).alloc (Nat.le_refl _) _)
theorem CX.put {q m : Nat} {w wr : World} {nm : ByteArray} {v0 v1 vl : Value} {r : List Bool} (h : CX q m w nm v0 v1 vl r wr) (r' : List Bool) : CX q m w nm v0 v1 vl r' (wr.setRow m (bc r')) := by
  have hne := h.ne
  refine ⟨⟨below_setRow h.pb.old _ (by omega) _, by rw [size_setRow]; exact h.pb.lt, (setRow_other _ _ _ _ (by omega)).trans h.pb.row⟩, h.ne, by rw [size_setRow]; exact h.lt, setRow_heap _ _ _ _ _ _ h.hk⟩
set_option maxHeartbeats 4000000 in
theorem pcheck_any {ea : Int → Addr} : ChkC0 ea := by
  intro v p w hE h
  have hsh := fun (W : World) (hW : Below w.heap.size w W) => pshaped_any v p W (h.below hW)
  have how := fun (W : World) (hW : Below w.heap.size w W) => powOne_any v p W (h.below hW)
  have hah := fun (hs : shaped p = true) (W : World) (hW : Below w.heap.size w W) => ahead_row (ea := ea) v p W (h.below hW) (by unfold shaped at hs; simp only [Bool.and_eq_true] at hs; exact ahd_12 hs.1.1.1) (by unfold shaped at hs; simp only [Bool.and_eq_true] at hs; exact ahd_12 hs.1.1.2) (hE.below hW)
  obtain ⟨v0, v1, vl, rfl, h0, h1, hl⟩ := h
  obtain ⟨al, cl, rfl, _, hm, _⟩ := id hl
  have hst := pb_start w p.nm v0 v1 (.slice al p.ln.length cl)
  have hat := fun j (hj : j < p.ln.length) => hl.at hj
  obtain ⟨q, hq⟩ : ∃ q, w.heap.size = q := ⟨_, rfl⟩
  obtain ⟨n, hn⟩ : ∃ n, p.ln.length = n := ⟨_, rfl⟩
  obtain ⟨nm, hnm⟩ : ∃ nm, p.nm = nm := ⟨_, rfl⟩
  simp only [hn, hq, hnm] at hst hat hm hsh how hah ⊢
  obtain ⟨W, hW⟩ : ∃ W, w.alloc (.cells #[.string nm, v0, v1, .slice al n cl] 26) = W := ⟨_, rfl⟩
  rw [hW] at hst
  have HP : Hid (PB q w nm v0 v1 (.slice al n cl) W) := hst
  have HAT : Hid (∀ j, j < n → _) := hat
  have HN : Hid (p.ln.length = n) := hn
  have HM : Hid (n ≤ 140737488355328) := hm
  have HSH : Hid _ := hsh
  have HOW : Hid _ := how
  have HE : Hid (∀ y, Below q w y → Errs ea y) := fun y hy => hE.below (by rw [hq]; exact hy)
  have c0 := hst.c0
  have c1 := hst.c1
  have c2 := hst.c2
  have c3 := hst.c3
  rcases hs : shaped p with _ | _
  · have HR : Hid (chk p = 9) := by show chk p = 9; simp [chk, hs]
    rw [hs] at HSH
    clear hst hat hm hsh how h0 h1 hl hah
    go_enter Tryd.func17, Tryd.ntmps17
    go_upto_region 2 with (go_at_call 33; refine (HSH.out _ HP.out.old).mono ?_; rintro e w' ⟨rfl, hw⟩; have HW : Hid (PB q w nm v0 v1 (.slice al n cl) w') := HP.out.below hw; clear hw)
    have e0 := ((HE.out _ HW.out.old).1 9 (by decide)).1
    simp only [eblk] at e0
    go_wp2
    go_ret
    exact ⟨by rw [HR.out]; rfl, HW.out.old⟩
  rw [hs] at HSH
  have HSP : Hid (LnT p.ln) := fun l hl => ⟨((shaped_all hs).2.2.2.2 l hl).1, isTok_t7 ((shaped_all hs).2.2.2.2 l hl).2.2.2⟩
  have HCK : Hid (chk p = _) := chk_pls p hs
  have hnb : nr (beg p) = ag 1 (ag 0 zr p.b0) p.b1 := nr_beg p (by unfold shaped at hs; simp only [Bool.and_eq_true] at hs; exact ahd_12 hs.1.1.1) (by unfold shaped at hs; simp only [Bool.and_eq_true] at hs; exact ahd_12 hs.1.1.2)
  have hah' := hah hs
  rw [← hnb] at hah'
  obtain ⟨R0, hR0⟩ : ∃ R, bc (nr (beg p)) = R := ⟨_, rfl⟩
  have HAH : Hid (∀ y, Below q w y → Calls Tryd.prog 34 #[.agg #[.string nm, v0, v1, .slice al n cl]] y fun e w' => e = .returned (.agg R0) ∧ Below y.heap.size y w') := by
    rw [← hR0]
    exact hah'
  have HR0 : Hid (bc (nr (beg p)) = R0 ∧ (Tryd.prog.info? 69).map (·.size) = some R0.size ∧ R0.all (·.oneCell') = true ∧ 9 = R0.size) := by
    refine ⟨hR0, ?_, ?_, ?_⟩
    · rw [← hR0]; exact bc_size (nr_len _)
    · rw [← hR0]; exact bc_one _
    · rw [← hR0]; rfl
  clear hst hat hm hsh how h0 h1 hl hah hah' hnb hR0 hs
  go_enter Tryd.func17, Tryd.ntmps17
  go_wp2_with (first
    | (go_at_call 33; refine (HSH.out _ HP.out.old).mono ?_; rintro e w1 ⟨rfl, hw⟩; have HW : Hid (PB q w nm v0 v1 (.slice al n cl) w1) := HP.out.below hw; have d0 := HW.out.c0; have d1 := HW.out.c1; have d2 := HW.out.c2; have d3 := HW.out.c3; clear hw c0 c1 c2 c3)
    | (go_at_call 34; refine (HAH.out _ HW.out.old).mono ?_; rintro e w2 ⟨rfl, hw⟩; have HW2 : Hid (PB q w nm v0 v1 (.slice al n cl) w2) := HW.out.below hw; clear hw d0 d1 d2 d3)
    | (with_reducible refine at_list ?_; refine hold_store 69 (.tmp 3) (.tmp 13) rfl ?_))
  obtain ⟨m, hm⟩ : ∃ m, w2.heap.size = m := ⟨_, rfl⟩
  refine store_row_new rfl 69 (.tmp 3) (.tmp 13) rfl m R0 (by simp only [hm]; rfl) hm.symm rfl 69 _ HR0.out.2.1 HR0.out.2.2.2 HR0.out.2.2.1 ?_
  obtain ⟨V, hV⟩ : ∃ V, w2.alloc (.cells R0 69) = V := ⟨_, rfl⟩
  have HV : Hid (CX q m w nm v0 v1 (.slice al n cl) (nr (beg p)) V) := by
    show CX q m w nm v0 v1 (.slice al n cl) (nr (beg p)) V
    rw [← hV]
    refine ⟨HW2.out.below ((Below.refl _ _).alloc (Nat.le_refl _) _), by have := HW2.out.lt; omega, by rw [size_alloc]; omega, ?_⟩
    rw [HR0.out.1, ← hm]
    exact heap_alloc_new _ _
  rw [hV]
  simp only [hm]
  have d3 := HV.out.pb.c3
  clear hV hm
  go_wp2
  clear d3
  go_loopw [17] (fun v17 wr => ∃ (k : Nat) (r : List Bool), k ≤ n ∧ v17 = .int .i64 k ∧ r.length = 9 ∧ pls (nr (beg p)) p.ln = pls r (p.ln.drop k) ∧ CX q m w nm v0 v1 (.slice al n cl) r wr) (fun v _ => n - (intOf v).toNat)
  case atStart => exact ⟨0, nr (beg p), Nat.zero_le _, rfl, nr_len _, rfl, HV.out⟩
  case round =>
    obtain ⟨k, r, hk, rfl, hr, hpl, hx⟩ := hrel
    have HX : Hid (CX q m w nm v0 v1 (.slice al n cl) r wr) := hx
    obtain ⟨R, hR⟩ : ∃ R, bc r = R := ⟨_, rfl⟩
    have HRR : Hid (bc r = R ∧ (Tryd.prog.info? 69).map (·.size) = some R.size ∧ r.length = 9) := ⟨hR, by rw [← hR]; exact bc_size hr, hr⟩
    by_cases hlt : k < n
    · have b1 : (k : Int) < (n : Int) := by omega
      have bn : (n : Int) ≤ 140737488355328 := by have := HM.out; omega
      obtain ⟨b, o, a2, n2, c2, rfl, hc, hrn, hn2⟩ := HAT.out k hlt
      have x0 := (hc wr hx.pb.old).1
      have x1 := (hc wr hx.pb.old).2
      have hdr : p.ln.drop k = (p.ln.getD k (0, [])) :: p.ln.drop (k + 1) := drop_getD p.ln k (by rw [HN.out]; exact hlt)
      have hmem : p.ln.getD k (0, []) ∈ p.ln := by
        have hk' : k < p.ln.length := by rw [HN.out]; exact hlt
        rw [show p.ln.getD k (0, []) = p.ln[k] by simp [List.getD, hk']]
        exact List.getElem_mem _
      obtain ⟨hf01, htt⟩ := HSP.out _ hmem
      obtain ⟨⟨f, TS⟩, hfT⟩ : ∃ l, p.ln.getD k (0, []) = l := ⟨_, rfl⟩
      rw [hfT] at hdr x0 hrn hn2 hf01 htt
      simp only at x0 hrn hn2 hf01 htt
      obtain ⟨s, hs⟩ : ∃ s : Nat, f = (s : Int) := ⟨f.toNat, by omega⟩
      have hs2 : s < 2 := by omega
      have hfs : f.toNat = s := by omega
      rw [hs] at x0
      have HDR : Hid (p.ln.drop k = (f, TS) :: p.ln.drop (k + 1) ∧ f.toNat = s) := ⟨hdr, hfs⟩
      have CB0 : ∀ y, Below q w y → Calls Tryd.prog 35 #[.agg R, .agg #[.int .i64 s, .slice a2 n2 c2]] y fun e w' => e = .returned (.tuple #[rv (bhd s r TS).1, EV ea (bhd s r TS).2]) ∧ Below y.heap.size y w' := fun y hy => by
        rw [← hR]
        exact behind_any (ea := ea) r hr s hs2 _ TS htt y (hrn.below (by rw [hq]; exact hy)) (HE.out y hy)
      obtain ⟨R2, hR2⟩ : ∃ R, bc (bhd s r TS).1 = R := ⟨_, rfl⟩
      have HR2 : Hid (bc (bhd s r TS).1 = R2 ∧ (Tryd.prog.info? 69).map (·.size) = some R2.size ∧ R2.all (·.oneCell') = true ∧ 9 = R2.size ∧ R2.size = R.size) := by
        have h9 := bhd_len s r TS hr
        refine ⟨hR2, by rw [← hR2]; exact bc_size h9, by rw [← hR2]; exact bc_one _, by rw [← hR2]; simp [bc, h9], by rw [← hR2, ← hR]; simp [bc, h9, hr]⟩
      rw [show rv (bhd s r TS).1 = .agg (bc (bhd s r TS).1) from rfl, hR2] at CB0
      by_cases hb0 : (bhd s r TS).2 = 0
      · have HON : Hid (pls (nr (beg p)) p.ln = pls (bhd s r TS).1 (p.ln.drop (k + 1)) ∧ (bhd s r TS).1.length = 9) := by
          refine ⟨?_, bhd_len s r TS hr⟩
          rw [hpl, hdr, pls, hfs, if_neg (by simp [hb0])]
        rw [hb0, EV_0] at CB0
        have HCB : Hid _ := CB0
        clear CB0 hb0 hpl hdr hmem hfT hrn hn2 hf01 htt hs hfs hc hR hr hR2 hx hk
        go_wp2_with (first
          | (with_reducible refine at_list ?_; refine wpList_load_row rfl 69 (.tmp 3) rfl m rfl 69 R (0, 0) _ (by rw [← HRR.out.1]; exact (HX.out.alloc _).hk) Tryd.underlying69 rfl HRR.out.2.1 ?_)
          | (go_at_call 35; refine (HCB.out _ (HX.out.alloc _).pb.old).mono ?_; rintro e y ⟨rfl, hb⟩; have HY : Hid (CX q m w nm v0 v1 (.slice (some ⟨b, o, none⟩) n cl) r y) := (HX.out.alloc _).below hb; clear hb x0 x1)
          | (with_reducible refine at_list ?_; refine hold_store 69 (.tmp 6) (.tmp 25) rfl ?_))
        obtain ⟨g, hg⟩ : ∃ g, y.heap.size = g := ⟨_, rfl⟩
        refine store_row_new rfl 69 (.tmp 6) (.tmp 25) rfl g R2 (by simp only [hg]; rfl) hg.symm rfl 69 _ HR2.out.2.1 HR2.out.2.2.2.1 HR2.out.2.2.1 ?_
        obtain ⟨V2, hV2⟩ : ∃ V, y.alloc (.cells R2 69) = V := ⟨_, rfl⟩
        have HV2 : Hid (CX q m w nm v0 v1 (.slice (some ⟨b, o, none⟩) n cl) r V2 ∧ V2.heap[g]? = some (.cells R2 69)) := by
          rw [← hV2]
          refine ⟨HY.out.alloc _, ?_⟩
          rw [← hg]
          exact heap_alloc_new _ _
        rw [hV2]
        simp only [hg]
        clear hV2 hg
        go_wp2_with (first
          | (with_reducible refine at_list ?_; refine wpList_load_row rfl 69 (.tmp 6) rfl g rfl 69 R2 (0, 0) _ HV2.out.2 Tryd.underlying69 rfl HR2.out.2.1 ?_)
          | (with_reducible refine at_list ?_; refine hold_store 69 (.tmp 3) (.tmp 30) rfl ?_))
        refine wpList_store_row rfl 69 (.tmp 3) (.tmp 30) rfl m R2 rfl rfl 69 R (by rw [← HRR.out.1]; exact HV2.out.1.hk) HR2.out.2.1 HR2.out.2.2.2.2.symm HR2.out.2.2.1 ?_
        have HV3 : Hid (CX q m w nm v0 v1 (.slice (some ⟨b, o, none⟩) n cl) (bhd s r TS).1 (V2.setRow m R2)) := by
          show CX q m w nm v0 v1 (.slice (some ⟨b, o, none⟩) n cl) (bhd s r TS).1 (V2.setRow m R2)
          rw [← HR2.out.1]
          exact HV2.out.1.put _
        go_wp2
        exact ⟨⟨k + 1, _, hlt, congrArg (Value.int .i64) (by omega), HON.out.2, HON.out.1, HV3.out⟩, by show n - ((k : Int) + 1).toNat < n - ((k : Int)).toNat; omega⟩
      · have HOFF : Hid (chk p = (bhd s r TS).2 ∧ (bhd s r TS).2 ≠ 0) := by
          refine ⟨?_, hb0⟩
          rw [HCK.out, hpl, hdr, pls, hfs, if_pos hb0, if_pos hb0]
        rw [EV_ne hb0] at CB0
        have HCB : Hid _ := CB0
        clear CB0 hb0 hpl hdr hmem hfT hrn hn2 hf01 htt hs hfs hc hR hr hR2 hx hk
        go_wp2_with (first
          | (with_reducible refine at_list ?_; refine wpList_load_row rfl 69 (.tmp 3) rfl m rfl 69 R (0, 0) _ (by rw [← HRR.out.1]; exact (HX.out.alloc _).hk) Tryd.underlying69 rfl HRR.out.2.1 ?_)
          | (go_at_call 35; refine (HCB.out _ (HX.out.alloc _).pb.old).mono ?_; rintro e y ⟨rfl, hb⟩; have HY : Hid (CX q m w nm v0 v1 (.slice (some ⟨b, o, none⟩) n cl) r y) := (HX.out.alloc _).below hb; clear hb x0 x1)
          | (with_reducible refine at_list ?_; refine hold_store 69 (.tmp 6) (.tmp 25) rfl ?_))
        obtain ⟨g, hg⟩ : ∃ g, y.heap.size = g := ⟨_, rfl⟩
        refine store_row_new rfl 69 (.tmp 6) (.tmp 25) rfl g R2 (by simp only [hg]; rfl) hg.symm rfl 69 _ HR2.out.2.1 HR2.out.2.2.2.1 HR2.out.2.2.1 ?_
        obtain ⟨V2, hV2⟩ : ∃ V, y.alloc (.cells R2 69) = V := ⟨_, rfl⟩
        have HV2 : Hid (CX q m w nm v0 v1 (.slice (some ⟨b, o, none⟩) n cl) r V2 ∧ V2.heap[g]? = some (.cells R2 69)) := by
          rw [← hV2]
          refine ⟨HY.out.alloc _, ?_⟩
          rw [← hg]
          exact heap_alloc_new _ _
        rw [hV2]
        simp only [hg]
        clear hV2 hg
        go_wp2
        go_ret
        exact ⟨by rw [HOFF.out.1, EV_ne HOFF.out.2]; rfl, HV2.out.1.pb.old⟩
    · have b1 : ¬ (k : Int) < (n : Int) := by omega
      have hpr : pls (nr (beg p)) p.ln = (r, 0) := by
        rw [hpl, List.drop_eq_nil_of_le (by rw [HN.out]; omega)]
        rfl
      have hck := HCK.out
      rw [hpr, if_neg (by simp)] at hck
      simp only at hck
      have CS0 : ∀ (s : Nat), s < 2 → ∀ y, Below q w y → Calls Tryd.prog 36 #[.agg R, .int .i64 s] y fun e w' => e = .returned (.bool (sfr r s)) ∧ Below y.heap.size y w' := fun s hs y hy => by
        rw [← hR]
        exact rsafe_any r hr s hs y (HE.out y hy).2
      have C0 : ∀ y, Below q w y → Calls Tryd.prog 36 #[.agg R, .int .i64 0] y fun e w' => e = .returned (.bool (sfr r 0)) ∧ Below y.heap.size y w' := CS0 0 (by decide)
      have C1 : ∀ y, Below q w y → Calls Tryd.prog 36 #[.agg R, .int .i64 1] y fun e w' => e = .returned (.bool (sfr r 1)) ∧ Below y.heap.size y w' := CS0 1 (by decide)
      obtain ⟨s0, hs0⟩ : ∃ b, sfr r 0 = b := ⟨_, rfl⟩
      obtain ⟨s1, hs1⟩ : ∃ b, sfr r 1 = b := ⟨_, rfl⟩
      obtain ⟨ow, how⟩ : ∃ b, oneWay p = b := ⟨_, rfl⟩
      rw [hs0] at C0 hck
      rw [hs1] at C1 hck
      rw [how] at hck HOW
      have HC0 : Hid _ := C0
      have HC1 : Hid _ := C1
      have HCK2 : Hid (chk p = if s0 = false then 12 else if ow = false ∧ s1 = false then 12 else 0) := hck
      have d0 := hx.pb.c0
      have d1 := hx.pb.c1
      have d2 := hx.pb.c2
      have d3 := hx.pb.c3
      clear hpl hpr hck CS0 C0 C1 hs0 hs1 how hR hr hx hk
      cases s0 with
      | false =>
        go_upto_region 13 with (first
          | (with_reducible refine at_list ?_; refine wpList_load_row rfl 69 (.tmp 3) rfl m rfl 69 R (0, 0) _ (by rw [← HRR.out.1]; exact HX.out.hk) Tryd.underlying69 rfl HRR.out.2.1 ?_)
          | (go_at_call 36; refine (HC0.out _ HX.out.pb.old).mono ?_; rintro e y ⟨rfl, hb⟩; have HY : Hid (CX q m w nm v0 v1 (.slice al n cl) r y) := HX.out.below hb; clear hb d0 d1 d2 d3))
        have e5 := ((HE.out _ HY.out.pb.old).1 12 (by decide)).1
        simp only [eblk] at e5
        go_wp2
        go_ret
        exact ⟨by rw [HCK2.out]; rfl, HY.out.pb.old⟩
      | true =>
        cases ow with
        | true =>
          go_wp2_with (first
            | (with_reducible refine at_list ?_; refine wpList_load_row rfl 69 (.tmp 3) rfl m rfl 69 R (0, 0) _ (by rw [← HRR.out.1]; exact HX.out.hk) Tryd.underlying69 rfl HRR.out.2.1 ?_)
            | (go_at_call 36; refine (HC0.out _ HX.out.pb.old).mono ?_; rintro e y ⟨rfl, hb⟩; have HY : Hid (CX q m w nm v0 v1 (.slice al n cl) r y) := HX.out.below hb; have f0 := HY.out.pb.c0; have f1 := HY.out.pb.c1; have f2 := HY.out.pb.c2; have f3 := HY.out.pb.c3; clear hb d0 d1 d2 d3)
            | (go_at_call 37; refine (HOW.out _ HY.out.pb.old).mono ?_; rintro e y2 ⟨rfl, hb⟩; have HY2 : Hid (CX q m w nm v0 v1 (.slice al n cl) r y2) := HY.out.below hb; clear hb f0 f1 f2 f3))
          go_ret
          exact ⟨by rw [HCK2.out, if_neg (by simp), if_neg (by simp)]; rfl, HY2.out.pb.old⟩
        | false =>
          cases s1 with
          | true =>
            go_wp2_with (first
              | (with_reducible refine at_list ?_; refine wpList_load_row rfl 69 (.tmp 3) rfl m rfl 69 R (0, 0) _ (by rw [← HRR.out.1]; exact HX.out.hk) Tryd.underlying69 rfl HRR.out.2.1 ?_)
              | (go_at_call 36; have HQQ := d0; refine (HC0.out _ HX.out.pb.old).mono ?_; rintro e y ⟨rfl, hb⟩; have HY : Hid (CX q m w nm v0 v1 (.slice al n cl) r y) := HX.out.below hb; have f0 := HY.out.pb.c0; have f1 := HY.out.pb.c1; have f2 := HY.out.pb.c2; have f3 := HY.out.pb.c3; clear hb d0 d1 d2 d3 HQQ)
              | (go_at_call 37; refine (HOW.out _ HY.out.pb.old).mono ?_; rintro e y2 ⟨rfl, hb⟩; have HY2 : Hid (CX q m w nm v0 v1 (.slice al n cl) r y2) := HY.out.below hb; clear hb f0 f1 f2 f3)
              | (with_reducible refine at_list ?_; refine load_row_w (by kernel_rfl) 69 (.tmp 3) rfl m rfl 69 R (0, 0) _ (by rw [← HRR.out.1]; exact HY2.out.hk) Tryd.underlying69 rfl HRR.out.2.1 ?_)
              | (go_at_call 36; refine (HC1.out _ HY2.out.pb.old).mono ?_; rintro e y3 ⟨rfl, hb⟩; have HY3 : Hid (CX q m w nm v0 v1 (.slice al n cl) r y3) := HY2.out.below hb; clear hb))
            go_ret
            exact ⟨by rw [HCK2.out, if_neg (by simp), if_neg (by simp)]; rfl, HY3.out.pb.old⟩
          | false =>
            go_upto_region 13 with (first
              | (with_reducible refine at_list ?_; refine wpList_load_row rfl 69 (.tmp 3) rfl m rfl 69 R (0, 0) _ (by rw [← HRR.out.1]; exact HX.out.hk) Tryd.underlying69 rfl HRR.out.2.1 ?_)
              | (go_at_call 36; have HQQ := d0; refine (HC0.out _ HX.out.pb.old).mono ?_; rintro e y ⟨rfl, hb⟩; have HY : Hid (CX q m w nm v0 v1 (.slice al n cl) r y) := HX.out.below hb; have f0 := HY.out.pb.c0; have f1 := HY.out.pb.c1; have f2 := HY.out.pb.c2; have f3 := HY.out.pb.c3; clear hb d0 d1 d2 d3 HQQ)
              | (go_at_call 37; refine (HOW.out _ HY.out.pb.old).mono ?_; rintro e y2 ⟨rfl, hb⟩; have HY2 : Hid (CX q m w nm v0 v1 (.slice al n cl) r y2) := HY.out.below hb; clear hb f0 f1 f2 f3)
              | (with_reducible refine at_list ?_; refine load_row_w (by kernel_rfl) 69 (.tmp 3) rfl m rfl 69 R (0, 0) _ (by rw [← HRR.out.1]; exact HY2.out.hk) Tryd.underlying69 rfl HRR.out.2.1 ?_)
              | (go_at_call 36; refine (HC1.out _ HY2.out.pb.old).mono ?_; rintro e y3 ⟨rfl, hb⟩; have HY3 : Hid (CX q m w nm v0 v1 (.slice al n cl) r y3) := HY2.out.below hb; clear hb))
            have e5 := ((HE.out _ HY3.out.pb.old).1 12 (by decide)).1
            simp only [eblk] at e5
            go_wp2
            go_ret
            exact ⟨by rw [HCK2.out, if_neg (by simp), if_pos (by simp)]; rfl, HY3.out.pb.old⟩
end Go.Proofs.YtjhleocpipmklaaDoor
/- a drawn region that reads, calls and makes memory: its reads are taken first by the quiet walk's own step (go_hq i), what writes comes up alone (go_hr i); of no dump -/
namespace Go.Pin
open Go.RowKit
def plainB : Op → Bool
  | .move _ | .assign _ | .pick _ _ _ | .build _ _ | .load _ _ | .binOp _ _ _ _ _ | .unOp _ _ _ | .convert _ _ _ | .slice _ _ _ _ _ | .fieldAddr _ _ _ | .field _ _ _ | .indexAddr _ _ _ | .index _ _ _ | .extract _ _ => true
  | .call { callee := .builtin .len, .. } => true
  | _ => false
theorem ok_of_then {α : Type} {r : Result α} {g : α → Value} {w' : World} {n : Next} (h : r.andThen (fun a w' => Result.ok (Next.value (g a)) w') = .ok n w') : ∃ v, n = .value v := by
  cases r with
  | ok x w1 => simp [Result.andThen] at h; exact ⟨g x, h.1.symm⟩
  | halt x w1 => simp [Result.andThen] at h
theorem then_then {α β γ : Type} (r : Result α) (f : α → World → Result β) (g : β → World → Result γ) : (r.andThen f).andThen g = r.andThen (fun a w => (f a w).andThen g) := by
  cases r <;> rfl
theorem plain_ok {P : Program} {ρ : Operand → Value} {o : Oper} {w w' : World} {n : Next} (hp : plainB o.op = true) (h : (execOp ρ o).run P w = .ok n w') : ∃ v, n = .value v := by
  obtain ⟨dst, op, ty, pos, after, guard⟩ := o
  simp only at hp
  cases op
  all_goals first
    | (exfalso; simp [plainB] at hp; done)
    | (simp only [execOp, Sem.run_bind, Sem.run_pure] at h; exact ok_of_then (g := fun x => x) h)
    | (simp only [execOp, Sem.run_pure] at h; injection h with h1 h2; exact ⟨_, h1.symm⟩)
    | skip
  case pick =>
    simp only [execOp, Sem.run_bind, Sem.run_pure] at h
    exact ok_of_then (g := fun b => if b = true then ρ _ else ρ _) h
  case call c =>
    obtain ⟨callee, args, argTypes⟩ := c
    cases callee with
    | builtin b =>
      cases b
      all_goals first
        | (exfalso; simp [plainB] at hp; done)
        | skip
      simp only [execOp, resolve, invoke, builtin, Sem.run_bind, Sem.run_pure, Result.andThen_ok] at h
      exact ok_of_then (g := fun x => x) h
    | _ => exfalso; simp [plainB] at hp
section
variable {P : Program} {ops : Array Oper} {Q : Exit → Act → World → Prop} {S : World → Prop} {fuel : Nat} {listed : Array Bool} {a : Act} {w : World}
theorem wp_region_hcls (S : World → Prop) (n : Nat) {id : Nat} (hn : ops.size = n) (hm : P.follows .mixedOrders = true) (hC : S w.drew)
    (h : ∀ (X : Type) (f : X → World), Nonempty X → (∀ x, S (f x)) → Hid (∀ Y, S Y → ∃ x, Y = f x) → wpAnyH P .any ops Q S n (Array.replicate n false) a w.drew) : (Code.region id ops true).wp P Q a w :=
  wp_region_held_drew hm hC (fun _ => by rw [hn]; exact h {w // S w} Subtype.val ⟨⟨_, hC⟩⟩ (fun x => x.2) (fun Y hY => ⟨⟨Y, hY⟩, rfl⟩))
theorem takeQ {X : Type} {f : X → World} (i : Nat) {o : Oper} (hi : ops[i]? = some o) (hs : Region.noSelect ops = true) (hf : Region.free .any ops listed i = true) (hr : (Region.ready .any ops listed).contains i = true)
    (hp : plainB o.op = true) (hQ : ∀ c (a : Act) d v w, Q (.panic c) (a.put d v) w → Q (.panic c) a w) (hS : S w) (hC : ∀ Y, S Y → ∃ x, Y = f x) (hw : Region.wanted o (yielded ops a.tmps) = true)
    (h : ∀ K : Act → Prop, (∀ a', wpAnyH P .any ops Q S fuel (listed.setIfInBounds i true) a' w → K a') → o.quiet P a (fun w' => ∃ x, w' = f x) K) : wpAnyH P .any ops Q S (fuel + 1) listed a w := by
  obtain ⟨v, h1, h2⟩ := h _ (fun _ h => h)
  refine wpAnyH_take hi hs hf hr (fun _ _ _ h => hQ _ _ _ _ _ h) (.inl ⟨hw, fun w hw => ?_⟩) hS h2
  have := h1 w (hC w hw)
  unfold Oper.quietAt at this
  cases e : (execOp a.eval o).run P w with
  | ok n w' =>
    obtain ⟨u, rfl⟩ := plain_ok hp e
    rw [e] at this
    obtain ⟨rfl, rfl⟩ := this
    rfl
  | halt x w' => rw [e] at this; exact this.elim
theorem skipQ (i : Nat) {o : Oper} (hi : ops[i]? = some o) (hs : Region.noSelect ops = true) (hf : Region.free .any ops listed i = true) (hr : (Region.ready .any ops listed).contains i = true)
    (hQ : ∀ c (a : Act) d v w, Q (.panic c) (a.put d v) w → Q (.panic c) a w) (hS : S w) (hw : Region.wanted o (yielded ops a.tmps) = false)
    (h : wpAnyH P .any ops Q S fuel (listed.setIfInBounds i true) (a.put o.dst undef) w) : wpAnyH P .any ops Q S (fuel + 1) listed a w :=
  wpAnyH_take hi hs hf hr (fun _ _ _ h => hQ _ _ _ _ _ h) (.inr ⟨hw, rfl⟩) hS h
/-- one operation alone may come up -/
theorem readyQ (i : Nat) {o : Oper} (hi : ops[i]? = some o) (hr : Region.ready .any ops listed = [i]) (hw : Region.wanted o (yielded ops a.tmps) = true)
    (h : ∀ K : Act → World → Prop, (∀ a' w', S w' → wpAnyH P .any ops Q S fuel (listed.setIfInBounds i true) a' w' → K a' w') → Oper.wp P o a w K Q) : wpAnyH P .any ops Q S (fuel + 1) listed a w := by
  refine wpAnyH_all hr (by simp) (fun j hj => ?_)
  obtain rfl : j = i := by simpa using hj
  refine wpOp_step hi (fun K hK => ?_)
  rw [if_pos hw]
  exact h K (fun a' w' h1 h2 => hK a' w' ⟨h1, h2⟩)
theorem listed_as {l l' : Array Bool} (hl : l = l') (h : wpAnyH P .any ops Q S fuel l' a w) : wpAnyH P .any ops Q S fuel l a w := by rw [hl]; exact h
end
end Go.Pin
namespace Go.Proofs.YtjhleocpipmklaaDoor
set_option linter.unusedSimpArgs false
set_option linter.unusedVariables false
open Go.ChangeShapes Go.WideShapes Go.ChangeAt Go.RowKit Go.Pin Go.Pat
theorem wpCallU {P : Program} {o : Oper} {a : Act} {w : World} {K : Act → World → Prop} {Q : Exit → Act → World → Prop} {f : Nat} {xs : Array Operand} {ts : Array TypeId} {args : Array Value} {R : Value → World → Prop} {d : Option Nat}
    (ho : o.op = .call { callee := .value (.func f), args := xs, argTypes := ts }) (hd : o.dst = d) (ha : xs.map a.eval = args) (hen : ∀ w, (callFunc f args).run P w = .ok (.enter f args) w) (hc : Calls P f args w fun e w' => ∃ v, e = .returned v ∧ R v w') (h : ∀ v w', R v w' → K (a.put d v) w') : Oper.wp P o a w K Q := by
  subst hd
  unfold Oper.wp execOp
  simp only [ho]
  go_simp
  refine hc.mono ?_
  rintro e w' ⟨v, rfl, hr⟩
  exact h v w' hr
/-- Levels' boxes: the pattern, what each side has shown, whose turn it is -/
structure LvB (q s n : Nat) (w : World) (nm : ByteArray) (v0 v1 vl : Value) (x y f : Int) (o : Bool) (wr : World) : Prop where
  pb : PB q w nm v0 v1 vl wr
  qs : q < s
  sz : s + 4 < wr.heap.size
  sh : wr.heap[s]? = some (.cells #[.int .i64 x, .int .i64 y] 59)
  tn : wr.heap[s + 2]? = some (.cells #[.int .i64 f] 3)
  al : wr.heap[s + 3]? = some (.cells #[.bool o] 4)
/-- the grades so far -/
def LvG (b n : Nat) (gs : List Gd) (wr : World) : Prop := ∃ cur : Array Value, wr.heap[b]? = some (.cells cur 48) ∧ cur.size = n * 3 ∧ cur.toList.take (gs.length * 3) = gcs gs
section
variable {q s n : Nat} {w wr w' : World} {nm : ByteArray} {v0 v1 vl : Value} {x y f : Int} {o : Bool} {gs : List Gd} {b : Nat}
theorem LvB.s0 (h : LvB q s n w nm v0 v1 vl x y f o wr) : wr.cell? ⟨s, 0, none⟩ = some (.int .i64 x) := by rw [cell_of_row _ _ _ _ _ _ h.sh]; rfl
theorem LvB.s1 (h : LvB q s n w nm v0 v1 vl x y f o wr) : wr.cell? ⟨s, 1, none⟩ = some (.int .i64 y) := by rw [cell_of_row _ _ _ _ _ _ h.sh]; rfl
theorem LvB.fz (h : LvB q s n w nm v0 v1 vl x y f o wr) (j : Nat) : wr.frozen? ⟨s, j, none⟩ = false := frozen_of_row _ _ _ _ _ h.sh
theorem LvB.keep (h : LvB q s n w nm v0 v1 vl x y f o wr) (hb : Below q w w') (hz : s + 4 < w'.heap.size) (ho : ∀ k, k = q ∨ k = s ∨ k = s + 2 ∨ k = s + 3 → w'.heap[k]? = wr.heap[k]?) : LvB q s n w nm v0 v1 vl x y f o w' :=
  ⟨⟨hb, by have := h.qs; omega, (ho _ (by simp)).trans h.pb.row⟩, h.qs, hz, (ho _ (by simp)).trans h.sh, (ho _ (by simp)).trans h.tn, (ho _ (by simp)).trans h.al⟩
theorem LvB.turn (h : LvB q s n w nm v0 v1 vl x y f o wr) (g : Int) : LvB q s n w nm v0 v1 vl x y g o (wr.setCell ⟨s + 2, 0, none⟩ (.int .i64 g)) := by
  have ho : ∀ k, k ≠ s + 2 → (wr.setCell ⟨s + 2, 0, none⟩ (.int .i64 g)).heap[k]? = wr.heap[k]? := fun k hne => heap_setCell_other _ _ _ _ hne
  have hs := h.qs
  refine ⟨⟨h.pb.old.setCell (p := ⟨s + 2, 0, none⟩) (by show q ≤ s + 2; omega) _, by rw [World.size_setCell]; exact h.pb.lt, (ho _ (by omega)).trans h.pb.row⟩, h.qs, by rw [World.size_setCell]; exact h.sz, (ho _ (by omega)).trans h.sh, ?_, (ho _ (by omega)).trans h.al⟩
  rw [heap_setCell_same _ _ _ _ _ _ h.tn]
  rfl
theorem LvB.shown (h : LvB q s n w nm v0 v1 vl x y f o wr) (z : Int) : LvB q s n w nm v0 v1 vl z y f o (wr.setCell ⟨s, 0, none⟩ (.int .i64 z)) ∧ LvB q s n w nm v0 v1 vl x z f o (wr.setCell ⟨s, 1, none⟩ (.int .i64 z)) := by
  have ho : ∀ j k, k ≠ s → (wr.setCell ⟨s, j, none⟩ (.int .i64 z)).heap[k]? = wr.heap[k]? := fun j k hne => heap_setCell_other _ _ _ _ hne
  have hs := h.qs
  constructor
  · refine ⟨⟨h.pb.old.setCell (p := ⟨s, 0, none⟩) (by show q ≤ s; omega) _, by rw [World.size_setCell]; exact h.pb.lt, (ho _ _ (by omega)).trans h.pb.row⟩, h.qs, by rw [World.size_setCell]; exact h.sz, ?_, (ho _ _ (by omega)).trans h.tn, (ho _ _ (by omega)).trans h.al⟩
    rw [heap_setCell_same _ _ _ _ _ _ h.sh]
    rfl
  · refine ⟨⟨h.pb.old.setCell (p := ⟨s, 1, none⟩) (by show q ≤ s; omega) _, by rw [World.size_setCell]; exact h.pb.lt, (ho _ _ (by omega)).trans h.pb.row⟩, h.qs, by rw [World.size_setCell]; exact h.sz, ?_, (ho _ _ (by omega)).trans h.tn, (ho _ _ (by omega)).trans h.al⟩
    rw [heap_setCell_same _ _ _ _ _ _ h.sh]
    rfl
theorem LvB.drew (h : LvB q s n w nm v0 v1 vl x y f o wr) : LvB q s n w nm v0 v1 vl x y f o wr.drew := h.keep (drew_below h.pb.old) h.sz (fun _ _ => rfl)
theorem LvG.drew (h : LvG b n gs wr) : LvG b n gs wr.drew := h
theorem LvG.set (h : LvG b n gs wr) (ho : w'.heap[b]? = wr.heap[b]?) : LvG b n gs w' := by
  obtain ⟨cur, h1, h2⟩ := h
  exact ⟨cur, ho.trans h1, h2⟩
theorem take_set3 {α : Type} (l : List α) (i : Nat) (a b c : α) (h : i + 3 ≤ l.length) : (((l.set i a).set (i + 1) b).set (i + 2) c).take (i + 3) = l.take i ++ [a, b, c] := by
  apply List.ext_getElem?
  intro k
  rw [List.getElem?_take, List.getElem?_append, List.length_take]
  by_cases hk : k < i
  · rw [if_pos (by omega), if_pos (by omega), List.getElem?_set_ne (by omega), List.getElem?_set_ne (by omega), List.getElem?_set_ne (by omega), List.getElem?_take_of_lt hk]
  · rw [if_neg (c := k < min i l.length) (by omega), show min i l.length = i by omega]
    by_cases h3 : k < i + 3
    · rw [if_pos h3]
      obtain rfl | rfl | rfl : k = i ∨ k = i + 1 ∨ k = i + 2 := by omega
      · rw [List.getElem?_set_ne (by omega), List.getElem?_set_ne (by omega), List.getElem?_set_self (by omega)]; simp
      · rw [List.getElem?_set_ne (by omega), List.getElem?_set_self (by simp; omega)]; simp
      · rw [List.getElem?_set_self (by simp; omega)]; simp
    · rw [if_neg h3]
      symm
      exact List.getElem?_eq_none (by simp; omega)
theorem LvG.there (h : LvG b n gs wr) (hn : gs.length < n) : wr.there b (gs.length * 3) 3 := by
  obtain ⟨cur, h1, h2, h3⟩ := h
  intro j hj
  refine ⟨?_, frozen_of_row _ _ _ _ _ h1⟩
  rw [cell_of_row _ _ _ _ _ _ h1]
  simp
  omega
theorem LvG.snoc (h : LvG b n gs wr) (hn : gs.length < n) (g : Gd) : LvG b n (gs ++ [g]) (wr.setCells b (gs.length * 3) [.int .i64 g.1, .int .i64 g.2.1, .int .i64 g.2.2]) := by
  obtain ⟨cur, h1, h2, h3⟩ := h
  have e1 := heap_setCell_same wr b (gs.length * 3) _ _ (.int .i64 g.1) h1
  have e2 := heap_setCell_same _ b (gs.length * 3 + 1) _ _ (.int .i64 g.2.1) e1
  have e3 := heap_setCell_same _ b (gs.length * 3 + 1 + 1) _ _ (.int .i64 g.2.2) e2
  refine ⟨_, e3, by simp [h2], ?_⟩
  rw [gcs_snoc, ← h3]
  simp only [Array.toList_setIfInBounds, List.length_append, List.length_cons, List.length_nil]
  rw [show (gs.length + (0 + 1)) * 3 = gs.length * 3 + 3 by omega]
  exact take_set3 _ _ _ _ _ (by simp [h2]; omega)
theorem setCells3_other (wr : World) (b o k : Nat) (a1 a2 a3 : Value) (h : k ≠ b) : (wr.setCells b o [a1, a2, a3]).heap[k]? = wr.heap[k]? := by
  show (((wr.setCell ⟨b, o, none⟩ a1).setCell ⟨b, o + 1, none⟩ a2).setCell ⟨b, o + 1 + 1, none⟩ a3).heap[k]? = _
  rw [heap_setCell_other _ _ _ _ h, heap_setCell_other _ _ _ _ h, heap_setCell_other _ _ _ _ h]
theorem setCells3_below {B : Nat} (hb : Below B w wr) (b o : Nat) (a1 a2 a3 : Value) (h : B ≤ b) : Below B w (wr.setCells b o [a1, a2, a3]) :=
  ((hb.setCell (p := ⟨b, o, none⟩) h _).setCell (p := ⟨b, o + 1, none⟩) h _).setCell (p := ⟨b, o + 1 + 1, none⟩) h _
theorem setCells3_size (wr : World) (b o : Nat) (a1 a2 a3 : Value) : (wr.setCells b o [a1, a2, a3]).heap.size = wr.heap.size := by
  show (((wr.setCell ⟨b, o, none⟩ a1).setCell ⟨b, o + 1, none⟩ a2).setCell ⟨b, o + 1 + 1, none⟩ a3).heap.size = _
  rw [World.size_setCell, World.size_setCell, World.size_setCell]
theorem LvB.grade (h : LvB q s n w nm v0 v1 vl x y f o wr) (k : Nat) (a1 a2 a3 : Value) : LvB q s n w nm v0 v1 vl x y f o (wr.setCells (s + 4) k [a1, a2, a3]) :=
  h.keep (setCells3_below h.pb.old _ _ _ _ _ (by have := h.qs; omega)) (by rw [setCells3_size]; exact h.sz) (fun k hk => setCells3_other _ _ _ _ _ _ _ (by have := h.qs; omega))
theorem LvG.own (h : LvG b n gs wr) (hn : gs.length = n) (hb : q ≤ b) (hm : n ≤ maxLen) : wr.ownsRow q 48 3 (.slice (some ⟨b, 0, none⟩) n n) n (gcs gs) := by
  obtain ⟨cur, h1, h2, h3⟩ := h
  rw [hn] at h3
  exact ⟨by rw [gcs_length, hn], .inr ⟨b, n, cur, rfl, hb, h1, Nat.le_refl _, hm, h2, h3⟩⟩
end
end Go.Proofs.YtjhleocpipmklaaDoor
