import Derived.Test.YtpfidohkohldaaaGreatDoorMqay
namespace Go.Proofs.YtpfidohkohldaaaGreatDoor
set_option linter.unusedSimpArgs false
set_option linter.unusedVariables false
set_option maxRecDepth 100000
open Go.ChangeShapes Go.WideShapes Go.ChangeAt Go.RowKit Go.Pin Go.Pat Go.Deep
def MoP (ea : Int → Addr) (p : Pt) (ws : List ByteArray) (W : World) (e : Ending) (w' : World) : Prop :=
  Below W.heap.size W w' ∧ ∃ v0 v1 vl, e = .returned (.tuple #[.agg #[.string (mdf p ws).1.nm, v0, v1, vl], EV ea (mdf p ws).2]) ∧ FtP (fun b => W.heap.size ≤ b ∧ b < w'.heap.size) w' v0 v1 vl (mdf p ws).1
/-- MoP, and whose the memory is: each list of what is answered has a block of its own -/
def MoO (ea : Int → Addr) (p : Pt) (ws : List ByteArray) (W : World) (e : Ending) (w' : World) : Prop :=
  Below W.heap.size W w' ∧ ∃ v0 v1 vl, e = .returned (.tuple #[.agg #[.string (mdf p ws).1.nm, v0, v1, vl], EV ea (mdf p ws).2]) ∧ FtP (fun b => W.heap.size ≤ b ∧ b < w'.heap.size) w' v0 v1 vl (mdf p ws).1 ∧
    ((mdf p ws).2 = 0 → ∃ fs, lvl fs = (mdf p ws).1.ln ∧ EX W.heap.size [] [(0, v0, (mdf p ws).1.b0), (1, v1, (mdf p ws).1.b1)] fs vl w')
/-- MoO, and with an error all three lists are nil -/
def MoX (ea : Int → Addr) (p : Pt) (ws : List ByteArray) (W : World) (e : Ending) (w' : World) : Prop :=
  Below W.heap.size W w' ∧ ∃ v0 v1 vl, e = .returned (.tuple #[.agg #[.string (mdf p ws).1.nm, v0, v1, vl], EV ea (mdf p ws).2]) ∧ FtP (fun b => W.heap.size ≤ b ∧ b < w'.heap.size) w' v0 v1 vl (mdf p ws).1 ∧
    ((mdf p ws).2 = 0 → ∃ fs, lvl fs = (mdf p ws).1.ln ∧ EX W.heap.size [] [(0, v0, (mdf p ws).1.b0), (1, v1, (mdf p ws).1.b1)] fs vl w') ∧
    ((mdf p ws).2 ≠ 0 → (mdf p ws).1 = zPt ∧ v0 = .slice none 0 0 ∧ v1 = .slice none 0 0 ∧ vl = .slice none 0 0)
/-- the result's box is set -/
theorem B2.res {q : Nat} {w wr : World} {nm : ByteArray} {v0 v1 vl : Value} (h : B2 q w nm v0 v1 vl wr) (cs : Array Value) : Below q w (wr.setRow (q + 1) cs) ∧ (wr.setRow (q + 1) cs).heap[q + 1]? = some (.cells cs 26) :=
  ⟨below_setRow h.old _ (by omega) _, setRow_heap _ _ _ _ _ _ h.row2⟩
theorem B2.on {q base : Nat} {w wr w' : World} {nm : ByteArray} {v0 v1 vl : Value} (h : B2 q w nm v0 v1 vl wr) (hb : Below base wr w') (hq : q + 2 ≤ base) : B2 q w nm v0 v1 vl w' :=
  ⟨h.old.trans (hb.mono (by omega)), Nat.lt_of_lt_of_le h.lt hb.size, (hb.block q (by omega)).trans h.row, (hb.block (q + 1) (by omega)).trans h.row2⟩
/-- strings.Join of the words -/
theorem join_words (wv : Value) (ws : List ByteArray) (w : World) (h : RdS w wv ws) (hc : ∀ a n c, wv = .slice a n c → n ≤ c) (hs : ∀ x ∈ ws, x.size ≤ 8) (hl : ws.length ≤ 200) :
    Calls Tryz.prog 31 #[wv, .string ⟨#[43]⟩] w fun e w' => e = .returned (.string ⟨(Lib.join (ws.map toL) [43]).toArray⟩) ∧ Below w.heap.size w w' := by
  obtain ⟨a, cap, rfl, h3⟩ := h
  have hcp := hc _ _ _ rfl
  cases ws with
  | nil =>
    refine (Tryz.strings_Join_none a cap ⟨#[43]⟩ w).mono ?_
    rintro e w' ⟨rfl, rfl⟩
    exact ⟨rfl, Below.refl _ _⟩
  | cons x r =>
    obtain ⟨b, o, rfl, hx0⟩ := h3 0 (by simp)
    have hj : (Lib.join ((x :: r).map toL) [43]).length ≤ 9 * ((x :: r).map toL).length := join_len _ (fun y hy => by
      obtain ⟨z, hz, rfl⟩ := List.mem_map.1 hy
      rw [toL_len]
      exact hs z hz)
    rw [List.length_map] at hj
    refine (Tryz.strings_Join b o cap (x :: r) ⟨#[43]⟩ w (fun j y hy => ?_) (World.block_lt_of_cell? w _ hx0) (by omega) hcp ?_).mono ?_
    · have hjl := (List.getElem?_eq_some_iff.1 hy).1
      obtain ⟨b', o', e, hc'⟩ := h3 j hjl
      injection e with e
      injection e with e1 e2
      subst e1 e2
      rw [hc']
      simp [List.getD, hy]
    · exact Nat.le_trans hj (by omega)
    · rintro e w' ⟨rfl, hb⟩
      exact ⟨rfl, hb⟩
theorem four_rw {w : World} {n : Nat} {e0 e1 e2 e3 : Value} {t : TypeId} (h : w.heap[n]? = some (.cells #[e0, e1, e2, e3] t)) (a b c d : Value) :
    ((((w.setCell ⟨n, 0, none⟩ a).setCell ⟨n, 1, none⟩ b).setCell ⟨n, 2, none⟩ c).setCell ⟨n, 3, none⟩ d).heap[n]? = some (.cells #[a, b, c, d] t) := by
  have h1 := Go.heap_setCell_same w n 0 _ _ a h
  have h2 := Go.heap_setCell_same _ n 1 _ _ b h1
  have h3 := Go.heap_setCell_same _ n 2 _ _ c h2
  have h4 := Go.heap_setCell_same _ n 3 _ _ d h3
  exact h4
/-- what holds of what is being modified, behind i words -/
def Bm (i : Nat) (b0 b1 : List Int) (fs : List Lv) (lt : Nat) : Prop := b0.length ≤ 4 ∧ b1.length ≤ 4 ∧ fs.length ≤ 24 ∧ (∀ f ∈ fs, (f.1 = 0 ∨ f.1 = 1) ∧ 0 < f.2.2.length ∧ f.2.2.length ≤ 24 + i) ∧ lt ≤ 100
theorem strFb (s : ByteArray) : (s.toList == [102, 97, 108, 108, 98, 97, 99, 107]) = decide (s = fbW) := by
  rw [Bool.eq_iff_iff, beq_iff_eq, decide_eq_true_iff]
  constructor
  · intro h
    refine toL_inj ?_
    show s.data.toList = _
    rw [Go.ByteArray.toList_eq] at h
    exact h
  · intro h
    rw [h, Go.ByteArray.toList_eq]
    rfl
theorem MB.ft {base m : Nat} {nm : ByteArray} {v0 v1 vl : Value} {b0 b1 : List Int} {fs : List Lv} {w : World} (h : MB base m nm v0 v1 vl b0 b1 fs w) (h0 : b0.length ≤ 1000) (h1 : b1.length ≤ 1000) (hn : fs.length ≤ 1000) (hf : ∀ f ∈ fs, f.2.2.length ≤ 1000) (nm' : ByteArray) : FtP (fun b => base ≤ b ∧ b < w.heap.size) w v0 v1 vl ⟨nm', b0, b1, lvl fs⟩ :=
  ⟨own_ft (h.ex.own (f := (0, v0, b0)) (by simp)) rfl (by simp only; omega), own_ft (h.ex.own (f := (1, v1, b1)) (by simp)) rfl (by simp only; omega), h.ex.ftl hn hf⟩
set_option maxHeartbeats 8000000 in
theorem modify_ox {ea : Int → Addr} (v wv : Value) (p : Pt) (ws : List ByteArray) (W : World) (hE : Errs ea W) (hR : RdP W v p) (hw : RdS W wv ws) (hnm : p.nm.size ≤ 140737488355328) (hws : ws.length ≤ 200) (hwz : ∀ x ∈ ws, x.size ≤ 140737488355328) (hcap : ∀ a n c, wv = .slice a n c → n ≤ c) :
    Calls Tryz.prog 15 #[v, wv] W (MoX ea p ws W) := by
  have hRp := fun Y (hY : Below W.heap.size W Y) => hR.below hY
  have hWS := fun Y (hY : Below W.heap.size W Y) => hw.below hY
  obtain ⟨v0, v1, vl, rfl, h0, h1, hl⟩ := hR
  obtain ⟨a0, p0, rfl, -, z0, -⟩ := id h0
  obtain ⟨a1, p1, rfl, -, z1, -⟩ := id h1
  obtain ⟨al, cl, rfl, -, zl, -⟩ := id hl
  obtain ⟨aw, cw, rfl, hwc⟩ := id hw
  have hst := b2_start W p.nm (.slice a0 p.b0.length p0) (.slice a1 p.b1.length p1) (.slice al p.ln.length cl)
  have hM : mdf p ws = if chk p ≠ 0 then (zPt, chk p) else match wdsM p ws ws.length with | none => (zPt, 1) | some (q, _) => if chk q ≠ 0 then (zPt, chk q) else (⟨nmN p.nm ws ws.length, q.b0, q.b1, q.ln⟩, 0) := rfl
  obtain ⟨q, hq⟩ : ∃ q, W.heap.size = q := ⟨_, rfl⟩
  obtain ⟨nm, hnmE⟩ : ∃ nm, p.nm = nm := ⟨_, rfl⟩
  obtain ⟨n0, hn0⟩ : ∃ n0, p.b0.length = n0 := ⟨_, rfl⟩
  obtain ⟨n1, hn1⟩ : ∃ n1, p.b1.length = n1 := ⟨_, rfl⟩
  obtain ⟨L, hLn⟩ : ∃ L, p.ln.length = L := ⟨_, rfl⟩
  obtain ⟨n, hn⟩ : ∃ n, ws.length = n := ⟨_, rfl⟩
  unfold MoX
  simp only [hq, hnmE, hn0, hn1, hLn, hn] at hst hM hRp hWS hcap hnm hws z0 z1 zl ⊢
  obtain ⟨W0, hW0⟩ : ∃ W0, (W.alloc (.cells #[.string nm, .slice a0 n0 p0, .slice a1 n1 p1, .slice al L cl] 26)).alloc (.cells zPR 26) = W0 := ⟨_, rfl⟩
  rw [hW0] at hst
  have hsz : (W.alloc (.cells #[.string nm, .slice a0 n0 p0, .slice a1 n1 p1, .slice al L cl] 26)).heap.size = q + 1 := by rw [size_alloc, hq]
  have H0 : Hid (B2 q W nm (.slice a0 n0 p0) (.slice a1 n1 p1) (.slice al L cl) W0) := hst
  have HN : Hid (W.heap.size = q ∧ p.nm = nm ∧ p.b0.length = n0 ∧ p.b1.length = n1 ∧ p.ln.length = L ∧ ws.length = n) := ⟨hq, hnmE, hn0, hn1, hLn, hn⟩
  have HE : Hid (∀ y, Below q W y → Errs ea y) := fun y hy => hE.below (by rw [hq]; exact hy)
  have HRP : Hid _ := hRp
  have HWS : Hid _ := hWS
  have HCAP : Hid (n ≤ cw) := hcap _ _ _ rfl
  have HWZ : Hid (nm.size ≤ 140737488355328 ∧ n ≤ 200 ∧ ∀ x ∈ ws, x.size ≤ 140737488355328) := ⟨hnm, hws, hwz⟩
  have CK := pcheck_any (ea := ea) (.agg #[.string nm, .slice a0 n0 p0, .slice a1 n1 p1, .slice al L cl]) p W0 (HE.out _ hst.old) (HRP.out W0 hst.old)
  have k0 := hst.c0
  have k1 := hst.c1
  have k2 := hst.c2
  have k3 := hst.c3
  clear hst hRp hWS h0 h1 hl hw hwc hnmE hn0 hn1 hLn hn hcap hnm hws hwz hE
  by_cases hck : chk p = 0
  case neg =>
    have HM : Hid (mdf p ws = (zPt, chk p)) := by show mdf p ws = _; rw [hM, if_pos hck]
    rw [EV_ne hck] at CK
    obtain ⟨c, hc⟩ : ∃ c, chk p = c := ⟨_, rfl⟩
    rw [hc] at CK HM hck
    have HC : Hid (c ≠ 0) := hck
    clear hM hc hck
    go_enter Tryz.func15, Tryz.ntmps15
    go_upto_region 2 with (go_at_call 18; refine CK.mono ?_; rintro e w1 ⟨rfl, hb⟩; have H1 : Hid (B2 q W nm (.slice a0 n0 p0) (.slice a1 n1 p1) (.slice al L cl) w1) := H0.out.below hb; clear hb CK k0 k1 k2 k3)
    go_wp2_with (with_reducible refine at_list ?_; refine hold_store 26 (.tmp 4) (.tmp 17) rfl ?_)
    refine wpList_store_row rfl 26 (.tmp 4) (.tmp 17) rfl (q + 1) zPR rfl rfl 26 zPR H1.out.row2 (ipR _ _ _ _) rfl (by simp [zPR, Value.oneCell']) ?_
    go_wp2
    have hr := H1.out.res zPR
    refine bodyPost_ret (v := .tuple #[.agg zPR, .iface 166 (.pointer (some (ea c)))]) ?_ rfl ⟨hr.1, _, _, _, by rw [HM.out, EV_ne HC.out]; rfl, by rw [HM.out]; exact ftp_zero _ _, fun h => (by rw [HM.out] at h; exact absurd h HC.out), fun _ => ⟨by rw [HM.out], rfl, rfl, rfl⟩⟩
    exact results_row_tmp (P := Tryz.prog) (fn := Tryz.f15) (p := 4) (u := 5) (ty := 26) rfl _ _ (q + 1) 26 _ (0, 0) _ _ rfl hr.2 Tryz.underlying26 rfl (ipR _ _ _ _) rfl
  have hM2 : mdf p ws = match wdsM p ws n with | none => (zPt, 1) | some (q, _) => if chk q ≠ 0 then (zPt, chk q) else (⟨nmN nm ws n, q.b0, q.b1, q.ln⟩, 0) := by rw [hM, if_neg (fun h => h hck)]
  have HM : Hid _ := hM2
  have HCK : Hid (chk p = 0) := hck
  rw [hck, EV_0] at CK
  clear hM hM2 hck
  go_enter Tryz.func15, Tryz.ntmps15
  go_upto_region 2 with (go_at_call 18; refine CK.mono ?_; rintro e w1 ⟨rfl, hb⟩; have H1 : Hid (B2 q W nm (.slice a0 n0 p0) (.slice a1 n1 p1) (.slice al L cl) w1) := H0.out.below hb; clear hb CK k0 k1 k2 k3)
  have k0 := H1.out.c0
  have k1 := H1.out.c1
  have k2 := H1.out.c2
  have k3 := H1.out.c3
  have CC := clone_any (.agg #[.string nm, .slice a0 n0 p0, .slice a1 n1 p1, .slice al L cl]) p w1 (HRP.out w1 H1.out.old) (chk_shaped HCK.out)
  unfold ClP at CC
  rw [HN.out.2.1] at CC
  go_upto_region 5 with (go_at_call 27; refine CC.mono ?_; rintro e w2 ⟨hb, u0, u1, ul, fs0, rfl, hlv, hex⟩; have H2 : Hid (B2 q W nm (.slice a0 n0 p0) (.slice a1 n1 p1) (.slice al L cl) w2 ∧ lvl fs0 = p.ln ∧ EX (w1.heap.size + 2) [] [(0, u0, p.b0), (1, u1, p.b1)] fs0 ul w2 ∧ w1.heap.size ≤ w2.heap.size) := ⟨H1.out.below hb, hlv, hex, hb.size⟩; have hu0 := hex.own (f := (0, u0, p.b0)) (by simp); have hu1 := hex.own (f := (1, u1, p.b1)) (by simp); simp only at hu0 hu1; obtain ⟨x0, y0, rfl⟩ := own_slice' hu0; obtain ⟨x1, y1, rfl⟩ := own_slice' hu1; obtain ⟨xl, yl, rfl, -⟩ := hex.slice; clear hb hlv hex hu0 hu1 CC k0 k1 k2 k3)
  have hal := (Below.refl w2.heap.size w2).alloc (Nat.le_refl _) (.cells #[.string nm, .slice x0 p.b0.length y0, .slice x1 p.b1.length y1, .slice xl fs0.length yl] 26)
  have hm3 : MB (w1.heap.size + 2) w2.heap.size nm (.slice x0 p.b0.length y0) (.slice x1 p.b1.length y1) (.slice xl fs0.length yl) p.b0 p.b1 fs0 (w2.alloc (.cells #[.string nm, .slice x0 p.b0.length y0, .slice x1 p.b1.length y1, .slice xl fs0.length yl] 26)) :=
    ⟨heap_alloc_new _ _, ((H2.out.2.2.1.beside (k := w2.heap.size) (Nat.le_refl _) (by simp)).below hal), by
      have hp : 0 < fs0.length := by
        have h1 : fs0.length = (lvl fs0).length := by simp [lvl]
        rw [h1, H2.out.2.1]
        exact (shaped_all (chk_shaped HCK.out)).2.2.1
      obtain ⟨g, o, cap, _, _, hg1, hg2, _⟩ := H2.out.2.2.1.at hp
      omega⟩
  have hb3 := H2.out.1.below hal
  obtain ⟨base, hbase⟩ : ∃ base, w1.heap.size + 2 = base := ⟨_, rfl⟩
  obtain ⟨m, hm⟩ : ∃ m, w2.heap.size = m := ⟨_, rfl⟩
  obtain ⟨w3, hw3⟩ : ∃ w3, w2.alloc (.cells #[.string nm, .slice x0 p.b0.length y0, .slice x1 p.b1.length y1, .slice xl fs0.length yl] 26) = w3 := ⟨_, rfl⟩
  rw [hw3] at hm3 hb3 ⊢
  rw [hbase] at hm3
  rw [hm] at hm3
  simp only [hm]
  have HQB : Hid (q + 2 ≤ base) := by show q + 2 ≤ base; have := H1.out.lt; omega
  have H3 : Hid (B2 q W nm (.slice a0 n0 p0) (.slice a1 n1 p1) (.slice al L cl) w3 ∧ MB base m nm (.slice x0 p.b0.length y0) (.slice x1 p.b1.length y1) (.slice xl fs0.length yl) p.b0 p.b1 fs0 w3 ∧ lvl fs0 = p.ln) := ⟨hb3, hm3, H2.out.2.1⟩
  have hbd0 : Bm 0 p.b0 p.b1 fs0 0 := by
    obtain ⟨s0, s1, s2, s3, s4⟩ := shaped_all (chk_shaped HCK.out)
    have hlen : fs0.length = p.ln.length := by rw [← H2.out.2.1]; simp [lvl]
    refine ⟨by omega, by omega, by omega, fun f hf => ?_, by omega⟩
    have hmem : (f.1, f.2.2) ∈ p.ln := by rw [← H2.out.2.1]; exact List.mem_map.2 ⟨f, hf, rfl⟩
    obtain ⟨t1, t2, t3, _⟩ := s4 _ hmem
    exact ⟨t1, List.length_pos_iff.2 t2, by simpa using t3⟩
  have HBD0 : Hid _ := hbd0
  have bn : (n : Int) ≤ 200 := by have := HWZ.out.2.1; omega
  clear hal hm3 hb3 hw3 hm hbase H2 hbd0 hsz hW0
  go_wp2
  go_loopw [8, 23] (fun v8 v23 wr => ∃ (i lt : Nat) (b0 b1 : List Int) (u0 u1 ul : Value) (fs : List Lv), i ≤ n ∧ v23 = .int .i64 i ∧ v8 = .int .i64 lt ∧ wdsM p ws i = some (⟨nm, b0, b1, lvl fs⟩, (lt : Int) - 1) ∧ B2 q W nm (.slice a0 n0 p0) (.slice a1 n1 p1) (.slice al L cl) wr ∧ MB base m nm u0 u1 ul b0 b1 fs wr ∧ Bm i b0 b1 fs lt) (fun _ v _ => n - (intOf v).toNat)
  case atStart =>
    refine ⟨0, 0, p.b0, p.b1, _, _, _, fs0, Nat.zero_le _, rfl, rfl, ?_, H3.out.1, H3.out.2.1, HBD0.out⟩
    show some (p, (-1 : Int)) = _
    rw [H3.out.2.2, ← HN.out.2.1]
    rfl
  case round =>
    obtain ⟨i, lt, b0, b1, u0, u1, ul, fs, hi, rfl, rfl, hwd, hB, hMB, hBm⟩ := hrel
    have HMB : Hid (B2 q W nm (.slice a0 n0 p0) (.slice a1 n1 p1) (.slice al L cl) wr ∧ MB base m nm u0 u1 ul b0 b1 fs wr ∧ Bm i b0 b1 fs lt ∧ wdsM p ws i = some (⟨nm, b0, b1, lvl fs⟩, (lt : Int) - 1)) := ⟨hB, hMB, hBm, hwd⟩
    by_cases hlt : i < n
    · have c1 : (i : Int) < (n : Int) := by omega
      have c0 : (0 : Int) ≤ (i : Int) := by omega
      obtain ⟨_, cw', ew, hwc⟩ := HWS.out wr hB.old
      injection ew with ew1 ew2 ew3
      subst ew1 ew3
      obtain ⟨bw, ow, rfl, xw⟩ := hwc i (by rw [HN.out.2.2.2.2.2]; exact hlt)
      obtain ⟨s, hs⟩ : ∃ s, ws.getD i ⟨#[]⟩ = s := ⟨_, rfl⟩
      rw [hs] at xw
      have HS : Hid (ws.getD i ⟨#[]⟩ = s ∧ s.size ≤ 140737488355328) := ⟨hs, HWZ.out.2.2 s (by rw [← hs]; simp [List.getD, show i < ws.length by rw [HN.out.2.2.2.2.2]; exact hlt])⟩
      have hsf := strFb s
      clear hwc hs ew2
      by_cases hfb : i = 0 ∧ s = fbW
      · obtain ⟨rfl, rfl⟩ := hfb
        rw [decide_eq_true rfl] at hsf
        rw [Nat.add_zero] at xw
        have hw0 : wdsM p ws 0 = some (p, -1) := rfl
        rw [hw0] at hwd
        injection hwd with hwd
        injection hwd with hpe hle
        obtain rfl : lt = 0 := by omega
        rw [show ((0 : Nat) : Int) = 0 from rfl]
        rw [show ((0 : Nat) : Int) = 0 from rfl] at c1 c0
        have hln : lvl fs = p.ln := by rw [hpe]
        have hb0 : b0 = p.b0 := by rw [hpe]
        have hb1 : b1 = p.b1 := by rw [hpe]
        obtain ⟨g, r, hfs⟩ : ∃ g r, fs = g :: r := by
          cases fs with
          | nil =>
            have := (shaped_all (chk_shaped HCK.out)).2.2.1
            rw [← hln] at this
            simp [lvl] at this
          | cons g r => exact ⟨g, r, rfl⟩
        subst hfs
        obtain ⟨f, u, ts⟩ := g
        have hpl : p.ln = (f, ts) :: lvl r := by rw [← hln]; rfl
        have hbf := hBm.2.2.2.1 (f, u, ts) (by simp)
        simp only at hbf
        have hrl : r.length ≤ 24 := by have := hBm.2.2.1; simp at this; omega
        have CF := fallBack_any base m nm u0 u1 ul b0 b1 f u ts r wr hMB hbf.1 (by omega) (by have := hBm.1; omega) (by have := hBm.2.1; omega) (by omega)
        have HBR : Hid (Bm 0 b0 b1 ((f, u, ts) :: r) 0) := hBm
        unfold FbP at CF
        have hwd1 : wdsM p ws (0 + 1) = (bck p).map fun q => (q, (-1 : Int)) := by
          show wd1 (decide (0 = 0)) p (-1) (ws.getD 0 ⟨#[]⟩) = _
          rw [HS.out.1]
          unfold wd1
          rw [if_pos ⟨rfl, rfl⟩]
        cases ha : ahd ts with
        | false =>
          have HMN : Hid (mdf p ws = (zPt, 1)) := by
            show mdf p ws = _
            have hbn : bck p = none := by unfold bck; rw [hpl]; simp [ha]
            rw [hbn] at hwd1
            have := wdsM_none hwd1 (n - 1)
            rw [show 0 + 1 + (n - 1) = n by omega] at this
            rw [HM.out, this]
          rw [ha] at CF
          clear hwd1 ha hpl hpe hle hln hb0 hb1 hbf hB hMB hBm
          go_upto_region 12 with (go_at_call 28; refine CF.mono ?_; rintro e w5 ⟨hb5, rfl, -⟩; have H5 : Hid (B2 q W nm (.slice a0 n0 p0) (.slice a1 n1 p1) (.slice al L cl) w5) := HMB.out.1.on hb5 HQB.out; clear hb5 CF)
          have e1 := ((HE.out _ H5.out.old).1 1 (by decide)).1
          simp only [eblk] at e1
          have r0 := cell_of_row w5 (q + 1) 0 _ _ _ H5.out.row2
          have r1 := cell_of_row w5 (q + 1) 1 _ _ _ H5.out.row2
          have r2 := cell_of_row w5 (q + 1) 2 _ _ _ H5.out.row2
          have r3 := cell_of_row w5 (q + 1) 3 _ _ _ H5.out.row2
          have f0 := frozen_of_row w5 (q + 1) 0 _ _ H5.out.row2
          have f1 := frozen_of_row w5 (q + 1) 1 _ _ H5.out.row2
          have f2 := frozen_of_row w5 (q + 1) 2 _ _ H5.out.row2
          have f3 := frozen_of_row w5 (q + 1) 3 _ _ H5.out.row2
          simp at r0 r1 r2 r3
          have q1 : ¬ q + 1 = 2 := by
            have hh := World.block_lt_of_cell? W _ (((HE.out _ (Below.refl _ _)).1 1 (by decide)).1)
            simp only [eblk] at hh
            omega
          have q2 : ¬ 2 = q + 1 := fun h => q1 h.symm
          have q4 : ¬ q = 1 := fun h => by (have hh := World.block_lt_of_cell? W _ (((HE.out _ (Below.refl _ _)).1 1 (by decide)).1); simp only [eblk] at hh; first | omega | exact q1 (by rw [h]))
          go_wp2
          go_region
          all_goals go_wp2
          have hB9 : Below q W ((((w5.setCell ⟨q + 1, 0, none⟩ (.string ⟨#[]⟩)).setCell ⟨q + 1, 1, none⟩ (.slice none 0 0)).setCell ⟨q + 1, 2, none⟩ (.slice none 0 0)).setCell ⟨q + 1, 3, none⟩ (.slice none 0 0)).drew := ((((H5.out.old.setCell (p := ⟨q + 1, 0, none⟩) (Nat.le_succ _) _).setCell (p := ⟨q + 1, 1, none⟩) (Nat.le_succ _) _).setCell (p := ⟨q + 1, 2, none⟩) (Nat.le_succ _) _).setCell (p := ⟨q + 1, 3, none⟩) (Nat.le_succ _) _).drew
          refine bodyPost_ret (v := .tuple #[.agg zPR, .iface 166 (.pointer (some (ea 1)))]) ?_ rfl ⟨hB9, _, _, _, by rw [HMN.out]; rfl, by rw [HMN.out]; exact ftp_zero _ _, fun h => (by rw [HMN.out] at h; cases h), fun _ => ⟨by rw [HMN.out], rfl, rfl, rfl⟩⟩
          exact results_row_tmp (P := Tryz.prog) (fn := Tryz.f15) (p := 4) (u := 5) (ty := 26) rfl _ _ (q + 1) 26 _ (0, 0) _ _ rfl (four_rw H5.out.row2 _ _ _ _) Tryz.underlying26 rfl (ipR _ _ _ _) rfl
        | true =>
          have hbk := bck_ok HCK.out hpl ha
          rw [hbk] at hwd1
          have hsh := shaped_all (chk_shaped HCK.out)
          have hl0 : b0.length ≤ 2 := by rw [hb0]; exact hsh.1
          have hl1 : b1.length ≤ 2 := by rw [hb1]; exact hsh.2.1
          have hts : ts.length ≤ 2 := ahd_len ha
          have hsl : ∀ A : List Int, (srt A).length = A.length := fun A => by unfold srt; simp
          have HRB : Hid (∀ f' ∈ r, (f'.1 = 0 ∨ f'.1 = 1) ∧ 0 < f'.2.2.length ∧ f'.2.2.length ≤ 24 + (0 + 1)) := fun f' hf' => by
            have := hBm.2.2.2.1 f' (List.mem_cons_of_mem _ hf')
            exact ⟨this.1, this.2.1, by omega⟩
          have HNX : Hid (∀ (w5 : World), B2 q W nm (.slice a0 n0 p0) (.slice a1 n1 p1) (.slice al L cl) w5 → (∃ x vl, (f = 0 ∧ MB base m nm x u1 vl (srt (b0 ++ ts)) b1 r w5) ∨ (f = 1 ∧ MB base m nm u0 x vl b0 (srt (b1 ++ ts)) r w5)) →
              ∃ (i lt : Nat) (b0 b1 : List Int) (u0 u1 ul : Value) (fs : List Lv), i ≤ n ∧ Value.int .i64 1 = .int .i64 i ∧ Value.int .i64 0 = .int .i64 lt ∧ wdsM p ws i = some (⟨nm, b0, b1, lvl fs⟩, (lt : Int) - 1) ∧ B2 q W nm (.slice a0 n0 p0) (.slice a1 n1 p1) (.slice al L cl) w5 ∧ MB base m nm u0 u1 ul b0 b1 fs w5 ∧ Bm i b0 b1 fs lt) := fun w5 hB5 ⟨x, vl, h5⟩ => by
            have hpn : p.nm = nm := HN.out.2.1
            rcases h5 with ⟨hf0, h5⟩ | ⟨hf1, h5⟩
            · refine ⟨0 + 1, 0, srt (b0 ++ ts), b1, x, u1, vl, r, hlt, rfl, rfl, ?_, hB5, h5, by rw [hsl, List.length_append]; omega, by omega, by omega, HRB.out, by omega⟩
              rw [hwd1, hf0, if_neg (by decide), hb0, hb1, hpn]
              rfl
            · refine ⟨0 + 1, 0, b0, srt (b1 ++ ts), u0, x, vl, r, hlt, rfl, rfl, ?_, hB5, h5, by omega, by rw [hsl, List.length_append]; omega, by omega, HRB.out, by omega⟩
              rw [hwd1, hf1, if_pos rfl, hb0, hb1, hpn]
              rfl
          rw [ha] at CF
          clear hwd1 ha hpl hpe hle hln hb0 hb1 hbf hB hMB hBm hbk hsh hl0 hl1 hts hsl
          go_upto_region 12 with (go_at_call 28; refine CF.mono ?_; rintro e w5 ⟨hb5, rfl, h5⟩; have H5 : Hid (∃ (i lt : Nat) (b0 b1 : List Int) (u0 u1 ul : Value) (fs : List Lv), i ≤ n ∧ Value.int .i64 1 = .int .i64 i ∧ Value.int .i64 0 = .int .i64 lt ∧ wdsM p ws i = some (⟨nm, b0, b1, lvl fs⟩, (lt : Int) - 1) ∧ B2 q W nm (.slice a0 n0 p0) (.slice a1 n1 p1) (.slice al L cl) w5 ∧ MB base m nm u0 u1 ul b0 b1 fs w5 ∧ Bm i b0 b1 fs lt) := HNX.out w5 (HMB.out.1.on hb5 HQB.out) (h5 rfl); clear hb5 h5 CF)
          go_wp2
          exact ⟨H5.out, by show n - 1 < n - 0; omega⟩
      · have CL := layPSK_any base m nm u0 u1 ul b0 b1 fs s lt wr hMB hBm.2.2.1 (by have := hBm.2.2.2.2; omega) HS.out.2 (fun f hf => ⟨(hBm.2.2.2.1 f hf).2.1, by have := (hBm.2.2.2.1 f hf).2.2; have := HWZ.out.2.1; omega⟩)
        have hstep : wdsM p ws (i + 1) = wd1 (decide (i = 0)) ⟨nm, b0, b1, lvl fs⟩ ((lt : Int) - 1) s := by
          conv => lhs; unfold wdsM
          rw [hwd]
          simp only
          rw [HS.out.1]
        have hw1 : wd1 (decide (i = 0)) ⟨nm, b0, b1, lvl fs⟩ ((lt : Int) - 1) s = if nmb s < 0 ∨ nmb s ≤ (lt : Int) - 1 ∨ ((lvl fs).length : Int) < nmb s ∨ (lvl fs).length = 0 then none else if nmb s = 0 then some (⟨nm, b0, b1, (lvl fs).set 0 (((lvl fs).getD 0 (0, [])).1, 7 :: ((lvl fs).getD 0 (0, [])).2)⟩, 0) else some (⟨nm, b0, b1, (lvl fs).set ((nmb s).toNat - 1) (((lvl fs).getD ((nmb s).toNat - 1) (0, [])).1, ((lvl fs).getD ((nmb s).toNat - 1) (0, [])).2 ++ [7])⟩, nmb s) := by
          unfold wd1
          rw [if_neg (fun h => hfb ⟨by simpa using h.2, h.1⟩)]
        have hll : (lvl fs).length = fs.length := by simp [lvl]
        rw [hw1, hll] at hstep
        obtain ⟨N, hN⟩ : ∃ N, fs.length = N := ⟨_, rfl⟩
        -- what layPSK answers, and what the words are worth then
        have HCL : Hid (Calls Tryz.prog 29 #[.pointer (some ⟨m, 0, none⟩), .string s, .int .i64 lt] wr fun e w' => Below base wr w' ∧
            ((e = .returned (.tuple #[.int .i64 0, .bool false]) ∧ wdsM p ws (i + 1) = none) ∨ ∃ (k : Nat) (fs' : List Lv), e = .returned (.tuple #[.int .i64 (k + 1 : Nat), .bool true]) ∧ MB base m nm u0 u1 ul b0 b1 fs' w' ∧ wdsM p ws (i + 1) = some (⟨nm, b0, b1, lvl fs'⟩, (k : Int)) ∧ Bm (i + 1) b0 b1 fs' (k + 1))) := CL.mono fun e w' h => by
          obtain ⟨hb, h⟩ := h
          refine ⟨hb, ?_⟩
          rw [hN] at h hstep
          unfold nbr at h
          by_cases hnn : 0 ≤ nmb s ∧ nmb s ≤ (N : Int)
          · rw [if_pos hnn] at h
            simp only at h
            by_cases hless : (nmb s).toNat < lt ∨ N = 0
            · rw [if_pos hless] at h
              exact .inl ⟨h, by rw [hstep, if_pos (by omega)]⟩
            · rw [if_neg hless] at h
              obtain ⟨fs', he, hm', hl'⟩ := h
              rw [if_neg (by omega)] at hstep
              refine .inr ⟨(nmb s).toNat, fs', he, hm', ?_, ?_⟩
              · rw [hstep]
                by_cases hz : nmb s = 0
                · rw [if_pos hz, hl', if_pos (by omega), hz]
                  rfl
                · rw [if_neg hz, hl', if_neg (by omega)]
                  congr 2
                  omega
              · have hlf : fs'.length = fs.length := by
                  have h1 : (lvl fs').length = fs'.length := by simp [lvl]
                  rw [← h1, hl', ← hll]
                  split <;> simp
                have hbound : ∀ (l : Ln), l ∈ lvl fs' → (l.1 = 0 ∨ l.1 = 1) ∧ 0 < l.2.length ∧ l.2.length ≤ 24 + (i + 1) := by
                  have hold : ∀ l ∈ lvl fs, (l.1 = 0 ∨ l.1 = 1) ∧ 0 < l.2.length ∧ l.2.length ≤ 24 + i := fun l hl => by
                    obtain ⟨f, hf, rfl⟩ := List.mem_map.1 hl
                    exact hBm.2.2.2.1 f hf
                  have hgd : ∀ j, j < fs.length → (lvl fs).getD j (0, []) ∈ lvl fs := fun j hj => by
                    rw [show (lvl fs).getD j (0, []) = (lvl fs)[j]'(by rw [hll]; exact hj) by simp [List.getD, hll, hj]]
                    exact List.getElem_mem _
                  intro l hl
                  rw [hl'] at hl
                  split at hl
                  · rcases List.mem_or_eq_of_mem_set hl with hl | hl
                    · have := hold l hl; omega
                    · have := hold _ (hgd 0 (by omega))
                      rw [hl]
                      simp only [List.length_cons]
                      omega
                  · rcases List.mem_or_eq_of_mem_set hl with hl | hl
                    · have := hold l hl; omega
                    · have := hold _ (hgd ((nmb s).toNat - 1) (by omega))
                      rw [hl]
                      simp only [List.length_append, List.length_cons, List.length_nil]
                      omega
                refine ⟨hBm.1, hBm.2.1, by rw [hlf]; exact hBm.2.2.1, fun f hf => hbound (f.1, f.2.2) (List.mem_map.2 ⟨f, hf, rfl⟩), ?_⟩
                have := hBm.2.2.1
                omega
          · rw [if_neg hnn] at h
            exact .inl ⟨h, by rw [hstep, if_pos (by omega)]⟩
        have hg : (((i : Int) == 0) = false) ∨ (((i : Int) == 0) = true ∧ (s.toList == [102, 97, 108, 108, 98, 97, 99, 107]) = false) := by
          by_cases h0 : i = 0
          · right
            refine ⟨by simp [h0], ?_⟩
            rw [hsf]
            exact decide_eq_false (fun h => hfb ⟨h0, h⟩)
          · left
            simp
            omega
        have HLT : Hid (i < n) := hlt
        cases hok : wdsM p ws (i + 1) with
        | none =>
          have HMN : Hid (mdf p ws = (zPt, 1)) := by
            show mdf p ws = _
            have := wdsM_none hok (n - (i + 1))
            rw [show i + 1 + (n - (i + 1)) = n by omega] at this
            rw [HM.out, this]
          have HCF : Hid (Calls Tryz.prog 29 #[.pointer (some ⟨m, 0, none⟩), .string s, .int .i64 lt] wr fun e w' => e = .returned (.tuple #[.int .i64 0, .bool false]) ∧ Below base wr w') := HCL.out.mono fun e w' ⟨h1, h2⟩ => by
            rcases h2 with h2 | ⟨k, fs', _, _, h2, _⟩
            · exact ⟨h2.1, h1⟩
            · rw [hok] at h2; cases h2
          clear hok HCL CL hstep hw1 hll hN hwd hB hMB hBm hfb hsf hi hlt
          rcases hg with g0 | ⟨g0, g1⟩
          all_goals
            go_upto_region 12 with (go_at_call 29; refine HCF.out.mono ?_; rintro e w5 ⟨rfl, hb5⟩; have H5 : Hid (B2 q W nm (.slice a0 n0 p0) (.slice a1 n1 p1) (.slice al L cl) w5) := HMB.out.1.on hb5 HQB.out; clear hb5 xw)
            have e1 := ((HE.out _ H5.out.old).1 1 (by decide)).1
            simp only [eblk] at e1
            have r0 := cell_of_row w5 (q + 1) 0 _ _ _ H5.out.row2
            have r1 := cell_of_row w5 (q + 1) 1 _ _ _ H5.out.row2
            have r2 := cell_of_row w5 (q + 1) 2 _ _ _ H5.out.row2
            have r3 := cell_of_row w5 (q + 1) 3 _ _ _ H5.out.row2
            have f0 := frozen_of_row w5 (q + 1) 0 _ _ H5.out.row2
            have f1 := frozen_of_row w5 (q + 1) 1 _ _ H5.out.row2
            have f2 := frozen_of_row w5 (q + 1) 2 _ _ H5.out.row2
            have f3 := frozen_of_row w5 (q + 1) 3 _ _ H5.out.row2
            simp at r0 r1 r2 r3
            have q1 : ¬ q + 1 = 2 := by
              have hh := World.block_lt_of_cell? W _ (((HE.out _ (Below.refl _ _)).1 1 (by decide)).1)
              simp only [eblk] at hh
              omega
            have q2 : ¬ 2 = q + 1 := fun h => q1 h.symm
            have q4 : ¬ q = 1 := fun h => by (have hh := World.block_lt_of_cell? W _ (((HE.out _ (Below.refl _ _)).1 1 (by decide)).1); simp only [eblk] at hh; first | omega | exact q1 (by rw [h]))
            go_wp2
            go_region
            all_goals go_wp2
            have hB9 : Below q W ((((w5.setCell ⟨q + 1, 0, none⟩ (.string ⟨#[]⟩)).setCell ⟨q + 1, 1, none⟩ (.slice none 0 0)).setCell ⟨q + 1, 2, none⟩ (.slice none 0 0)).setCell ⟨q + 1, 3, none⟩ (.slice none 0 0)).drew := ((((H5.out.old.setCell (p := ⟨q + 1, 0, none⟩) (Nat.le_succ _) _).setCell (p := ⟨q + 1, 1, none⟩) (Nat.le_succ _) _).setCell (p := ⟨q + 1, 2, none⟩) (Nat.le_succ _) _).setCell (p := ⟨q + 1, 3, none⟩) (Nat.le_succ _) _).drew
            refine bodyPost_ret (v := .tuple #[.agg zPR, .iface 166 (.pointer (some (ea 1)))]) ?_ rfl ⟨hB9, _, _, _, by rw [HMN.out]; rfl, by rw [HMN.out]; exact ftp_zero _ _, fun h => (by rw [HMN.out] at h; cases h), fun _ => ⟨by rw [HMN.out], rfl, rfl, rfl⟩⟩
            exact results_row_tmp (P := Tryz.prog) (fn := Tryz.f15) (p := 4) (u := 5) (ty := 26) rfl _ _ (q + 1) 26 _ (0, 0) _ _ rfl (four_rw H5.out.row2 _ _ _ _) Tryz.underlying26 rfl (ipR _ _ _ _) rfl
        | some y =>
          have HCF : Hid (Calls Tryz.prog 29 #[.pointer (some ⟨m, 0, none⟩), .string s, .int .i64 lt] wr fun e w' => ∃ (k : Nat) (fs' : List Lv), e = .returned (.tuple #[.int .i64 ((k : Int) + 1), .bool true]) ∧ Below base wr w' ∧ MB base m nm u0 u1 ul b0 b1 fs' w' ∧ wdsM p ws (i + 1) = some (⟨nm, b0, b1, lvl fs'⟩, (k : Int)) ∧ Bm (i + 1) b0 b1 fs' (k + 1)) := HCL.out.mono fun e w' ⟨h1, h2⟩ => by
            rcases h2 with ⟨_, h2⟩ | ⟨k, fs', he, h3, h4, h5⟩
            · rw [hok] at h2; cases h2
            · exact ⟨k, fs', by rw [he]; rfl, h1, h3, h4, h5⟩
          clear hok HCL CL hstep hw1 hll hN hwd hB hMB hBm hfb hsf hi hlt
          rcases hg with g0 | ⟨g0, g1⟩
          all_goals
            go_upto_region 12 with (go_at_call 29; refine HCF.out.mono ?_; rintro e w5 ⟨k, fs', rfl, hb5, h6, h7, h8⟩; have H5 : Hid (B2 q W nm (.slice a0 n0 p0) (.slice a1 n1 p1) (.slice al L cl) w5 ∧ MB base m nm u0 u1 ul b0 b1 fs' w5 ∧ wdsM p ws (i + 1) = some (⟨nm, b0, b1, lvl fs'⟩, (k : Int)) ∧ Bm (i + 1) b0 b1 fs' (k + 1)) := ⟨HMB.out.1.on hb5 HQB.out, h6, h7, h8⟩; clear hb5 xw h6 h7 h8)
            go_wp2
            refine ⟨⟨i + 1, k + 1, b0, b1, _, _, _, fs', HLT.out, congrArg (Value.int .i64) (Int.natCast_succ i).symm, rfl, ?_, H5.out.1, H5.out.2.1, H5.out.2.2.2⟩, by have := HLT.out; show n - ((i : Int) + 1).toNat < n - ((i : Int)).toNat; omega⟩
            rw [H5.out.2.2.1]
            congr 2
            omega
    · have c1 : ¬ (i : Int) < (n : Int) := by omega
      obtain rfl : i = n := by omega
      have hu0 := hMB.ex.own (f := (0, u0, b0)) (by simp)
      have hu1 := hMB.ex.own (f := (1, u1, b1)) (by simp)
      simp only at hu0 hu1
      obtain ⟨j0, l0, rfl⟩ := own_slice' hu0
      obtain ⟨j1, l1, rfl⟩ := own_slice' hu1
      obtain ⟨jl, ll, rfl, -⟩ := hMB.ex.slice
      obtain ⟨d0, hd0⟩ : ∃ d0, b0.length = d0 := ⟨_, rfl⟩
      obtain ⟨d1, hd1⟩ : ∃ d1, b1.length = d1 := ⟨_, rfl⟩
      obtain ⟨dl, hdl⟩ : ∃ dl, fs.length = dl := ⟨_, rfl⟩
      have hft := hMB.ft (by have := hBm.1; omega) (by have := hBm.2.1; omega) (by have := hBm.2.2.1; omega) (fun f hf => by have := (hBm.2.2.2.1 f hf).2.2; have := HWZ.out.2.1; omega) nm
      have HFB : Hid ((∀ f ∈ fs, f.2.2.length ≤ 1000) ∧ b0.length ≤ 1000 ∧ b1.length ≤ 1000 ∧ fs.length ≤ 1000) := ⟨fun f hf => by have := (hBm.2.2.2.1 f hf).2.2; have := HWZ.out.2.1; omega, by have := hBm.1; omega, by have := hBm.2.1; omega, by have := hBm.2.2.1; omega⟩
      have CK2 := pcheck_any (ea := ea) _ _ wr (HE.out _ hB.old) hft.rd
      simp only [hd0, hd1, hdl] at CK2 HMB hMB
      have HD : Hid (b0.length = d0 ∧ b1.length = d1 ∧ fs.length = dl) := ⟨hd0, hd1, hdl⟩
      obtain ⟨Q, hQ⟩ : ∃ Q : Pt, Q = ⟨nm, b0, b1, lvl fs⟩ := ⟨_, rfl⟩
      rw [← hQ] at CK2
      have hMw : mdf p ws = if chk Q ≠ 0 then (zPt, chk Q) else (⟨nmN nm ws i, Q.b0, Q.b1, Q.ln⟩, 0) := by
        rw [HM.out, hwd, hQ]
      have k0 := hMB.c0
      have k1 := hMB.c1
      have k2 := hMB.c2
      have k3 := hMB.c3
      clear hft hu0 hu1 hd0 hd1 hdl hB hMB hBm hi
      by_cases hcq : chk Q = 0
      case neg =>
        have HMQ : Hid (mdf p ws = (zPt, chk Q)) := by show mdf p ws = _; rw [hMw, if_pos hcq]
        rw [EV_ne hcq] at CK2
        obtain ⟨c, hc⟩ : ∃ c, chk Q = c := ⟨_, rfl⟩
        rw [hc] at CK2 HMQ hcq
        have HC : Hid (c ≠ 0) := hcq
        clear hMw hc hcq hwd hQ
        go_upto_region 16 with (go_at_call 18; refine CK2.mono ?_; rintro e w6 ⟨rfl, hb⟩; have H6 : Hid (B2 q W nm (.slice a0 n0 p0) (.slice a1 n1 p1) (.slice al L cl) w6) := HMB.out.1.below hb; clear hb CK2 k0 k1 k2 k3)
        go_wp2_with (with_reducible refine at_list ?_; refine hold_store 26 (.tmp 4) (.tmp 50) rfl ?_)
        refine wpList_store_row rfl 26 (.tmp 4) (.tmp 50) rfl (q + 1) zPR rfl rfl 26 zPR H6.out.row2 (ipR _ _ _ _) rfl (by simp [zPR, Value.oneCell']) ?_
        go_wp2
        have hr := H6.out.res zPR
        refine bodyPost_ret (v := .tuple #[.agg zPR, .iface 166 (.pointer (some (ea c)))]) ?_ rfl ⟨hr.1, _, _, _, by rw [HMQ.out, EV_ne HC.out]; rfl, by rw [HMQ.out]; exact ftp_zero _ _, fun h => (by rw [HMQ.out] at h; exact absurd h HC.out), fun _ => ⟨by rw [HMQ.out], rfl, rfl, rfl⟩⟩
        exact results_row_tmp (P := Tryz.prog) (fn := Tryz.f15) (p := 4) (u := 5) (ty := 26) rfl _ _ (q + 1) 26 _ (0, 0) _ _ rfl hr.2 Tryz.underlying26 rfl (ipR _ _ _ _) rfl
      rw [hcq, EV_0] at CK2
      have HMQ : Hid (mdf p ws = (⟨nmN nm ws i, b0, b1, lvl fs⟩, 0)) := by show mdf p ws = _; rw [hMw, if_neg (fun h => h hcq), hQ]
      have HSM : Hid (∀ x ∈ ws, x.size ≤ 8) := fun x hx => by
        obtain ⟨j, hj⟩ := List.getElem?_of_mem hx
        have hjl := (List.getElem?_eq_some_iff.1 hj).1
        have := wdsM_pre hwd j (by rw [HN.out.2.2.2.2.2] at hjl; exact hjl)
        rw [show ws.getD j ⟨#[]⟩ = x by simp [List.getD, hj]] at this
        exact this
      clear hMw hcq hwd hQ
      go_upto_region 16 with (go_at_call 18; refine CK2.mono ?_; rintro e w6 ⟨rfl, hb⟩; have H6 : Hid (B2 q W nm (.slice a0 n0 p0) (.slice a1 n1 p1) (.slice al L cl) w6 ∧ MB base m nm (.slice j0 d0 l0) (.slice j1 d1 l1) (.slice jl dl ll) b0 b1 fs w6) := ⟨HMB.out.1.below hb, HMB.out.2.1.below hb⟩; clear hb CK2 k0 k1 k2 k3)
      go_upto_region 18 with (fail)
      have st0 : B2 q W nm (.slice a0 n0 p0) (.slice a1 n1 p1) (.slice al L cl) w6.drew := H6.out.1.below (Below.refl _ _).drew
      have hm7 : MB base m nm (.slice j0 d0 l0) (.slice j1 d1 l1) (.slice jl dl ll) b0 b1 fs w6.drew := H6.out.2.below (Below.refl _ _).drew
      obtain ⟨wd, hwd⟩ : ∃ wd, w6.drew = wd := ⟨_, rfl⟩
      rw [hwd] at st0 hm7
      have CJ := join_words (.slice aw i cw) ws wd (HWS.out wd st0.old) (fun a n c e => by injection e with e1 e2 e3; have := HCAP.out; omega) HSM.out (by have := HWZ.out.2.1; have := HN.out.2.2.2.2.2; omega)
      obtain ⟨J, hJ⟩ : ∃ J : ByteArray, (⟨(Lib.join (ws.map toL) [43]).toArray⟩ : ByteArray) = J := ⟨_, rfl⟩
      rw [hJ] at CJ
      have hjs : J.size ≤ 1800 := by
        rw [← hJ]
        show (Lib.join (ws.map toL) [43]).toArray.size ≤ 1800
        rw [List.size_toArray]
        have := join_len (ws.map toL) (fun y hy => by
          obtain ⟨x, hx, rfl⟩ := List.mem_map.1 hy
          rw [toL_len]
          exact HSM.out x hx)
        rw [List.length_map, HN.out.2.2.2.2.2] at this
        have := HWZ.out.2.1
        omega
      have hns : nm.size ≤ 140737488355328 := HWZ.out.1
      have hsum : nm.size + J.size ≤ 9223372036854775807 := by omega
      have HJ : Hid (nmN nm ws i = nm ++ J) := by
        show nmN nm ws i = nm ++ J
        refine toL_inj ?_
        rw [nmN_join nm ws i (by rw [HN.out.2.2.2.2.2]; exact Nat.le_refl _), show ws.take i = ws from List.take_of_length_le (by rw [HN.out.2.2.2.2.2]; exact Nat.le_refl _), ← hJ]
        simp [toL]
      refine Go.Pin.wp_region_hcls (fun Y => B2 q W nm (.slice a0 n0 p0) (.slice a1 n1 p1) (.slice al L cl) Y) 8 (by rfl) (by kernel_rfl) (by rw [hwd]; exact st0) ?_
      intro Sq fq hNq hRq hSq
      have y0 := fun x => (hRq x).c0
      rw [hwd]
      have HM7 : Hid (MB base m nm (.slice j0 d0 l0) (.slice j1 d1 l1) (.slice jl dl ll) b0 b1 fs wd) := hm7
      clear hm7 hwd hJ
      refine Go.Pin.takeQ 0 (by simp only [List.getElem?_toArray, List.getElem?_cons_zero, List.getElem?_cons_succ]; exact rfl) (by kernel_rfl) (by kernel_rfl) (by kernel_rfl) (by rfl) (fun _ _ d _ _ h => by cases d <;> exact h) (st0) (hSq).out (by kernel_rfl) ?_
      intro Kq hKq
      go_big_quiet_op
      go_big_quiet_on
      refine Go.Pin.takeQ 1 (by simp only [List.getElem?_toArray, List.getElem?_cons_zero, List.getElem?_cons_succ]; exact rfl) (by kernel_rfl) (by kernel_rfl) (by kernel_rfl) (by rfl) (fun _ _ d _ _ h => by cases d <;> exact h) (st0) (hSq).out (by kernel_rfl) ?_
      intro Kq hKq
      go_big_quiet_op
      go_big_quiet_on
      refine Go.Pin.takeQ 2 (by simp only [List.getElem?_toArray, List.getElem?_cons_zero, List.getElem?_cons_succ]; exact rfl) (by kernel_rfl) (by kernel_rfl) (by kernel_rfl) (by rfl) (fun _ _ d _ _ h => by cases d <;> exact h) (st0) (hSq).out (by kernel_rfl) ?_
      intro Kq hKq
      go_big_quiet_op
      go_big_quiet_on
      refine Go.Pin.readyQ 3 (by simp only [List.getElem?_toArray, List.getElem?_cons_zero, List.getElem?_cons_succ]; exact rfl) (by kernel_rfl) (by kernel_rfl) ?_
      intro K hK
      refine wpCallV (d := some 55) (f := 31) (R := fun x w7 => x = .string J ∧ Below wd.heap.size wd w7) rfl rfl (args := #[.slice aw i cw, .string ⟨#[43]⟩]) (by simp only [List.map_toArray, List.map_cons, List.map_nil]; rfl) (fun _ => rfl) (CJ.mono (fun e w7 ⟨h1, h2⟩ => ⟨_, h1, rfl, h2⟩)) ?_
      rintro x w7 ⟨rfl, hb7⟩
      refine hK _ _ (st0.below hb7) ?_
      simp only [Act.put, List.setIfInBounds_toArray, List.set_cons_zero, List.set_cons_succ]
      clear hK K
      have st7 := st0.below hb7
      refine Go.Pin.takeQ 4 (by simp only [List.getElem?_toArray, List.getElem?_cons_zero, List.getElem?_cons_succ]; exact rfl) (by kernel_rfl) (by kernel_rfl) (by kernel_rfl) (by rfl) (fun _ _ d _ _ h => by cases d <;> exact h) (st7) (hSq).out (by kernel_rfl) ?_
      intro Kq hKq
      go_big_quiet_op
      go_big_quiet_on
      have CN := sclone_any (nm ++ J) (by have : (nm ++ J).size = nm.size + J.size := ByteArray.size_append; omega) w7
      refine Go.Pin.readyQ 5 (by simp only [List.getElem?_toArray, List.getElem?_cons_zero, List.getElem?_cons_succ]; exact rfl) (by kernel_rfl) (by kernel_rfl) ?_
      intro K hK
      refine wpCallV (d := some 57) (f := 30) (R := fun x w8 => x = .string (nm ++ J) ∧ Below w7.heap.size w7 w8) rfl rfl (args := #[.string (nm ++ J)]) (by simp only [List.map_toArray, List.map_cons, List.map_nil]; rfl) (fun _ => rfl) (CN.mono (fun e w8 ⟨h1, h2⟩ => ⟨_, h1, rfl, h2⟩)) ?_
      rintro x w8 ⟨rfl, hb8⟩
      have st8 := st7.below hb8
      refine hK _ _ st8 ?_
      simp only [Act.put, List.setIfInBounds_toArray, List.set_cons_zero, List.set_cons_succ]
      clear hK K
      refine Go.Pin.takeQ 6 (by simp only [List.getElem?_toArray, List.getElem?_cons_zero, List.getElem?_cons_succ]; exact rfl) (by kernel_rfl) (by kernel_rfl) (by kernel_rfl) (by rfl) (fun _ _ d _ _ h => by cases d <;> exact h) (st8) (hSq).out (by kernel_rfl) ?_
      intro Kq hKq
      go_big_quiet_op
      go_big_quiet_on
      refine Go.Pin.readyQ 7 (by simp only [List.getElem?_toArray, List.getElem?_cons_zero, List.getElem?_cons_succ]; exact rfl) (by kernel_rfl) (by kernel_rfl) ?_
      intro K hK
      have hm8 := (HM7.out.below hb7).below hb8
      have k8 := hm8.c0
      have f8 := hm8.fz 0
      have hmq : q + 2 ≤ m := by have := HQB.out; have := hm8.hb; omega
      have st9 : B2 q W nm (.slice a0 n0 p0) (.slice a1 n1 p1) (.slice al L cl) (w8.setCell ⟨m, 0, none⟩ (.string (nm ++ J))) := by
        have ho : ∀ b, b ≠ m → (w8.setCell ⟨m, 0, none⟩ (.string (nm ++ J))).heap[b]? = w8.heap[b]? := fun b hne => heap_setCell_other _ _ _ _ hne
        exact ⟨st8.old.setCell (p := ⟨m, 0, none⟩) (by show q ≤ m; omega) _, by rw [World.size_setCell]; exact st8.lt, (ho _ (by omega)).trans st8.row, (ho _ (by omega)).trans st8.row2⟩
      refine wpSkp (d := none) (w' := w8.setCell ⟨m, 0, none⟩ (.string (nm ++ J))) rfl (by unfold execOp; go_simp) (hK _ _ st9 ?_)
      simp only [Act.put, List.setIfInBounds_toArray, List.set_cons_zero, List.set_cons_succ]
      clear hK K
      refine wpAnyH_done (by kernel_rfl) ?_ _
      have hm9 : MB base m (nm ++ J) (.slice j0 d0 l0) (.slice j1 d1 l1) (.slice jl dl ll) b0 b1 fs (w8.setCell ⟨m, 0, none⟩ (.string (nm ++ J))) :=
        ⟨by rw [Go.heap_setCell_same _ _ _ _ _ _ hm8.row]; rfl, hm8.ex.keep (fun b _ _ hbz => heap_setCell_other _ _ _ _ (by show b ≠ m; exact fun e => hbz (by rw [e]; simp))), hm8.hb⟩
      obtain ⟨w9, hw9⟩ : ∃ w9, w8.setCell ⟨m, 0, none⟩ (.string (nm ++ J)) = w9 := ⟨_, rfl⟩
      rw [hw9] at st9 hm9 ⊢
      have H9 : Hid (B2 q W nm (.slice a0 n0 p0) (.slice a1 n1 p1) (.slice al L cl) w9 ∧ MB base m (nm ++ J) (.slice j0 d0 l0) (.slice j1 d1 l1) (.slice jl dl ll) b0 b1 fs w9) := ⟨st9, hm9⟩
      have t0 := hm9.c0
      have t1 := hm9.c1
      have t2 := hm9.c2
      have t3 := hm9.c3
      clear hw9 st9 hm9 hm8 k8 f8 st8 st7 st0 hb7 hb8 hSq hRq hNq y0 CJ CN
      go_wp2_with (with_reducible refine at_list ?_; refine hold_store 26 (.tmp 4) (.tmp 59) rfl ?_)
      refine wpList_store_row rfl 26 (.tmp 4) (.tmp 59) rfl (q + 1) #[.string (nm ++ J), .slice j0 d0 l0, .slice j1 d1 l1, .slice jl dl ll] rfl rfl 26 zPR H9.out.1.row2 (ipR _ _ _ _) rfl (by simp [Value.oneCell']) ?_
      go_wp2
      have hr := H9.out.1.res #[.string (nm ++ J), .slice j0 d0 l0, .slice j1 d1 l1, .slice jl dl ll]
      have hft := H9.out.2.ft HFB.out.2.1 HFB.out.2.2.1 HFB.out.2.2.2 HFB.out.1 (nm ++ J)
      have hft2 : FtP (fun b => q ≤ b ∧ b < (w9.setRow (q + 1) #[.string (nm ++ J), .slice j0 d0 l0, .slice j1 d1 l1, .slice jl dl ll]).heap.size) (w9.setRow (q + 1) #[.string (nm ++ J), .slice j0 d0 l0, .slice j1 d1 l1, .slice jl dl ll]) (.slice j0 d0 l0) (.slice j1 d1 l1) (.slice jl dl ll) ⟨nm ++ J, b0, b1, lvl fs⟩ := (hft.keep (fun b hb => setRow_other _ _ _ _ (by have := hb.1; have := HQB.out; omega))).mono (fun b hb => ⟨by have := hb.1; have := HQB.out; omega, by rw [size_setRow]; exact hb.2⟩)
      have hex9 : EX q [] [(0, .slice j0 d0 l0, b0), (1, .slice j1 d1 l1, b1)] fs (.slice jl dl ll) (w9.setRow (q + 1) #[.string (nm ++ J), .slice j0 d0 l0, .slice j1 d1 l1, .slice jl dl ll]) :=
        (H9.out.2.ex.keep (fun b hb _ _ => setRow_other _ _ _ _ (by have := HQB.out; omega))).mono (by have := HQB.out; omega) (List.nil_sublist _)
      refine bodyPost_ret (v := .tuple #[.agg #[.string (nm ++ J), .slice j0 d0 l0, .slice j1 d1 l1, .slice jl dl ll], .nilIface]) ?_ rfl ⟨hr.1, _, _, _, by rw [HMQ.out, HJ.out]; rfl, by rw [HMQ.out, HJ.out]; exact hft2, fun _ => ⟨fs, by rw [HMQ.out], by rw [HMQ.out]; exact hex9⟩, fun h => absurd (by rw [HMQ.out]) h⟩
      exact results_row_tmp (P := Tryz.prog) (fn := Tryz.f15) (p := 4) (u := 5) (ty := 26) rfl _ _ (q + 1) 26 _ (0, 0) _ _ rfl hr.2 Tryz.underlying26 rfl (ipR _ _ _ _) rfl
theorem modify_own {ea : Int → Addr} (v wv : Value) (p : Pt) (ws : List ByteArray) (W : World) (hE : Errs ea W) (hR : RdP W v p) (hw : RdS W wv ws) (hnm : p.nm.size ≤ 140737488355328) (hws : ws.length ≤ 200) (hwz : ∀ x ∈ ws, x.size ≤ 140737488355328) (hcap : ∀ a n c, wv = .slice a n c → n ≤ c) :
    Calls Tryz.prog 15 #[v, wv] W (MoO ea p ws W) :=
  (modify_ox v wv p ws W hE hR hw hnm hws hwz hcap).mono fun e w' ⟨hb, v0, v1, vl, he, hf, h1, _⟩ => ⟨hb, v0, v1, vl, he, hf, h1⟩
theorem modify_any' {ea : Int → Addr} (v wv : Value) (p : Pt) (ws : List ByteArray) (W : World) (hE : Errs ea W) (hR : RdP W v p) (hw : RdS W wv ws) (hnm : p.nm.size ≤ 140737488355328) (hws : ws.length ≤ 200) (hwz : ∀ x ∈ ws, x.size ≤ 140737488355328) (hcap : ∀ a n c, wv = .slice a n c → n ≤ c) :
    Calls Tryz.prog 15 #[v, wv] W (MoP ea p ws W) :=
  (modify_own v wv p ws W hE hR hw hnm hws hwz hcap).mono fun e w' ⟨hb, v0, v1, vl, he, hf, _⟩ => ⟨hb, v0, v1, vl, he, hf⟩
end Go.Proofs.YtpfidohkohldaaaGreatDoor
