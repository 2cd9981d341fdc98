import Derived.Test.YtchnkpgkckadmaaGreatDoorMmbk
import Derived.Test.YtchnkpgkckadmaaGreatDoorMmbl
import Derived.Test.YtchnkpgkckadmaaGreatDoorMmbm
namespace Go.Proofs.YtchnkpgkckadmaaGreatDoor
set_option linter.unusedSimpArgs false
set_option linter.unusedVariables false
set_option maxRecDepth 100000
open Go.ChangeShapes Go.WideShapes Go.ChangeAt Go.RowKit Go.Pin Go.Pat
theorem strF (s : ByteArray) : (s.toList == [102, 97, 108, 108, 98, 97, 99, 107]) = decide (s = fbW) := by rw [← str_eq, show fbW.toList = [102, 97, 108, 108, 98, 97, 99, 107] by simp [fbW]]
/-- what Modify answers -/
def MdP (p : Pt) (ws : List ByteArray) (q : Nat) (W : World) (e : Ending) (w' : World) : Prop := Below q W w' ∧ ∃ u, e = .returned (.tuple #[u, .int .i64 (mdf p ws).2]) ∧ RdP w' u (mdf p ws).1
theorem wd1_size {b : Bool} {p q : Pt} {l m : Int} {w : ByteArray} (h : wd1 b p l w = some (q, m)) : w.size ≤ 8 := by
  unfold wd1 at h
  split at h
  · rename_i h1
    rw [h1.1]
    decide
  · split at h
    · cases h
    · rename_i h2
      unfold nmb at h2
      by_cases h3 : w.size < 4 ∨ 6 < w.size
      · rw [if_pos h3] at h2
        exact absurd (.inl (by decide)) h2
      · omega
theorem wdsM_size {p : Pt} {ws : List ByteArray} : ∀ (n : Nat) (r : Pt × Int), wdsM p ws n = some r → ∀ i, i < n → (ws.getD i ⟨#[]⟩).size ≤ 8
  | 0, _, _, i, hi => by omega
  | n + 1, r, h, i, hi => by
    unfold wdsM at h
    cases e : wdsM p ws n with
    | none => rw [e] at h; cases h
    | some x =>
      rw [e] at h
      obtain ⟨a, b⟩ := x
      obtain ⟨c, d⟩ := r
      by_cases hin : i = n
      · subst hin; exact wd1_size h
      · exact wdsM_size n _ e i (by omega)
theorem nmN_size (nm : ByteArray) (ws : List ByteArray) (n : Nat) (h : ∀ i, i < n → (ws.getD i ⟨#[]⟩).size ≤ 8) : (nmN nm ws n).size ≤ nm.size + 9 * n := by
  induction n with
  | zero => exact Nat.le_refl _
  | succ n ih =>
    have := ih (fun i hi => h i (by omega))
    have h2 := h n (by omega)
    have e : (⟨#[43]⟩ : ByteArray).size = 1 := rfl
    unfold nmN
    rw [ByteArray.size_append]
    split
    · omega
    · rw [ByteArray.size_append, e]; omega
theorem wdsM_none {p : Pt} {ws : List ByteArray} : ∀ (k i : Nat), wdsM p ws i = none → wdsM p ws (i + k) = none
  | 0, i, h => h
  | k + 1, i, h => by
    have := wdsM_none k i h
    show wdsM p ws (i + k + 1) = none
    unfold wdsM
    rw [this]
theorem ex_below {q : Nat} {ul : Value} {fs hd : List Lv} {w w' : World} (h : ∃ pre, OS (q + 2) pre (hd ++ fs) w ∧ LnX (q + 2) pre ul fs w) (hb : Below w.heap.size w w') : ∃ pre, OS (q + 2) pre (hd ++ fs) w' ∧ LnX (q + 2) pre ul fs w' := by
  obtain ⟨pre, hos, a, cap, e, hc, hl⟩ := h
  refine ⟨pre, hos.below hb, a, cap, e, hc, ?_⟩
  rcases hl with hl | ⟨g, o, cur, h1, h2, h3, h4, h5⟩
  · exact .inl hl
  · exact .inr ⟨g, o, cur, h1, h2, h3, (hb.block g (Array.getElem?_eq_some_iff.1 h4).1).trans h4, h5⟩
theorem ms_lay {q : Nat} {W wr : World} {nm : ByteArray} {v0 v1 vl u0 u1 ul : Value} {b0 b1 : List Int} {fs : List Lv} (h : P2 q W nm v0 v1 vl wr) (hex : ∃ pre, OS (q + 2) pre ([(0, u0, b0), (1, u1, b1)] ++ fs) wr ∧ LnX (q + 2) pre ul fs wr) : MS q W nm u0 u1 ul b0 b1 fs (wr.setRow q #[.string nm, u0, u1, ul]) := by
  have hot : ∀ b, q + 2 ≤ b → (wr.setRow q #[.string nm, u0, u1, ul]).heap[b]? = wr.heap[b]? := fun b hb => setRow_other _ _ _ _ (by omega)
  obtain ⟨pre, hos, a, cap, e, hc, hl⟩ := hex
  refine ⟨h.setRow _ _ _ _, pre, hos.keep (fun k hk => hot k (hos.lt k hk).1), a, cap, e, hc, ?_⟩
  rcases hl with hl | ⟨g, o, cur, h1, h2, h3, h4, h5⟩
  · exact .inl hl
  · exact .inr ⟨g, o, cur, h1, h2, h3, (hot g h3).trans h4, h5⟩
theorem ex_keep {q : Nat} {ul : Value} {fs hd : List Lv} {w w' : World} (h : ∃ pre, OS (q + 2) pre (hd ++ fs) w ∧ LnX (q + 2) pre ul fs w) (hb : ∀ b, q + 2 ≤ b → w'.heap[b]? = w.heap[b]?) : ∃ pre, OS (q + 2) pre (hd ++ fs) w' ∧ LnX (q + 2) pre ul fs w' := by
  obtain ⟨pre, hos, a, cap, e, hc, hl⟩ := h
  refine ⟨pre, hos.keep (fun k hk => hb k (hos.lt k hk).1), a, cap, e, hc, ?_⟩
  rcases hl with hl | ⟨g, o, cur, h1, h2, h3, h4, h5⟩
  · exact .inl hl
  · exact .inr ⟨g, o, cur, h1, h2, h3, (hb g h3).trans h4, h5⟩
theorem ex_rd {q : Nat} {wr : World} {nm : ByteArray} {v0 v1 vl : Value} {b0 b1 : List Int} {fs : List Lv} (h : ∃ pre, OS (q + 2) pre ([(0, v0, b0), (1, v1, b1)] ++ fs) wr ∧ LnX (q + 2) pre vl fs wr) (hb0 : b0.length ≤ 1000) (hb1 : b1.length ≤ 1000) (hn : fs.length ≤ 1000) (hf : ∀ f ∈ fs, f.2.2.length ≤ 1000) : RdP wr (.agg #[.string nm, v0, v1, vl]) ⟨nm, b0, b1, lvl fs⟩ := by
  obtain ⟨pre, hos, a, cap, rfl, hc, hl⟩ := h
  have hlen : (lvl fs).length = fs.length := by simp [lvl]
  refine ⟨v0, v1, _, rfl, own_ints (hos.own (0, v0, b0) (by simp)) (by simp only; omega), own_ints (hos.own (1, v1, b1) (by simp)) (by simp only; omega), a, cap, by rw [hlen], by rw [hlen]; exact hc, by rw [hlen]; omega, fun j hj => ?_⟩
  rw [hlen] at hj
  rcases hl with hl | ⟨g, o, cur, h1, h2, h3, h4, h5⟩
  · subst hl; simp at hj
  · have hgd : (lvl fs).getD j (0, []) = ((fs.getD j (0, undef, [])).1, (fs.getD j (0, undef, [])).2.2) := by simp [lvl, List.getD, hj]
    have hm : fs.getD j (0, undef, []) ∈ fs := by simp [List.getD, hj]
    simp only [hgd]
    exact ⟨g, o, _, h2, by rw [cell_of_row _ _ _ _ _ _ h4]; exact (h5 j hj).1, by rw [cell_of_row _ _ _ _ _ _ h4]; exact (h5 j hj).2, own_ints (hos.own _ (List.mem_append_right _ hm)) (by have := hf _ hm; omega)⟩
theorem P2.set0 {q : Nat} {W wr : World} {nm : ByteArray} {v0 v1 vl : Value} (h : P2 q W nm v0 v1 vl wr) (s : ByteArray) : P2 q W s v0 v1 vl (wr.setCell ⟨q, 0, none⟩ (.string s)) :=
  ⟨(h.sets 0 _).1, (h.sets 0 _).2.1, by rw [heap_setCell_same _ _ _ _ _ _ h.row]; rfl, (h.sets 0 _).2.2.1⟩
theorem MS.name {q : Nat} {W wr : World} {nm : ByteArray} {v0 v1 vl : Value} {b0 b1 : List Int} {fs : List Lv} (h : MS q W nm v0 v1 vl b0 b1 fs wr) (s : ByteArray) : MS q W s v0 v1 vl b0 b1 fs (wr.setCell ⟨q, 0, none⟩ (.string s)) :=
  h.keep (h.p2.set0 s) (fun b hb _ => (h.p2.sets 0 _).2.2.2 b (by omega))
theorem own_one7 (w : World) (b : Nat) (z : Int) (hb : b ≤ w.heap.size) : (w.alloc (.cells #[.int .i64 z] 3)).ownsRow b 3 1 (.slice (some ⟨w.heap.size, 0, none⟩) 1 1) 1 [.int .i64 z] :=
  ⟨rfl, .inr ⟨w.heap.size, 1, #[.int .i64 z], rfl, hb, heap_alloc_new _ _, Nat.le_refl _, by simp [maxLen], rfl, rfl⟩⟩
theorem grown_alloc {w w' : World} {o : Obj} {row : Option Nat} (h : (w.alloc o).grownBy w' row) : w.grownBy w' row := by
  have hb := (Below.refl w.heap.size w).alloc (Nat.le_refl _) o
  exact ⟨h.os.trans hb.os, h.tape.trans hb.tape, h.output.trans hb.output, Nat.le_trans hb.size h.size, fun k hk hne => (h.block k (Nat.lt_of_lt_of_le hk hb.size) hne).trans (hb.block k hk)⟩
def Bd (i : Nat) (b0 b1 : List Int) (fs : List Lv) (last : Int) : Prop := b0.length ≤ 2 ∧ b1.length ≤ 2 ∧ fs.length ≤ 24 ∧ (∀ f ∈ fs, (f.1 = 0 ∨ f.1 = 1) ∧ f.2.2.length ≤ 24 + i) ∧ -1 ≤ last ∧ last ≤ 1000
theorem nmb_le (w : ByteArray) : -1 ≤ nmb w ∧ nmb w ≤ 999 := by
  unfold nmb
  split
  · omega
  · rename_i h1
    split
    · omega
    · split
      · omega
      · cases e : dgN w (w.size - 3) with
        | none => simp only; omega
        | some n =>
          have := dgN_le w _ _ e
          have h3 : 10 ^ (w.size - 3) ≤ 10 ^ 3 := Nat.pow_le_pow_right (by decide) (by omega)
          simp only
          omega
set_option maxRecDepth 100000 in
set_option maxHeartbeats 16000000 in
theorem modify_any (v wv : Value) (p : Pt) (ws : List ByteArray) (W : World) (hR : RdP W v p) (hw : RdS W wv ws) (hnm : p.nm.size ≤ 100000) (hws : ws.length ≤ 200) (hwz : ∀ x ∈ ws, x.size ≤ 140737488355328) :
    Calls Tryz.prog 20 #[v, wv] W fun e w' => MdP p ws W.heap.size W e w' := by
  have hCk := fun Y (hY : Below W.heap.size W Y) => check_any v p Y (hR.below hY)
  have hRp := fun Y (hY : Below W.heap.size W Y) => hR.below hY
  obtain ⟨v0, v1, vl, rfl, h0, h1, hl⟩ := hR
  obtain ⟨a0, p0, rfl, -, z0, -⟩ := id h0
  obtain ⟨a1, p1, rfl, -, z1, -⟩ := id h1
  obtain ⟨al, cl, rfl, -, zl, -⟩ := id hl
  obtain ⟨aw, cw, rfl, hwc⟩ := id hw
  have hst := p2_start W p.nm (.slice a0 p.b0.length p0) (.slice a1 p.b1.length p1) (.slice al p.ln.length cl)
  obtain ⟨W0, hW0⟩ : ∃ W0, (W.alloc (.cells #[.string p.nm, .slice a0 p.b0.length p0, .slice a1 p.b1.length p1, .slice al p.ln.length cl] 26)).alloc (.cells #[.string ⟨#[]⟩, .slice none 0 0, .slice none 0 0, .slice none 0 0] 26) = W0 := ⟨_, rfl⟩
  rw [hW0] at hst
  have hM : mdf p ws = if chk p ≠ 0 then (zPt, chk p) else match wdsM p ws ws.length with | none => (zPt, 1) | some (q, _) => if chk q ≠ 0 then (zPt, chk q) else (⟨nmN p.nm ws ws.length, q.b0, q.b1, q.ln⟩, 0) := rfl
  have hWS := fun Y (hY : Below W.heap.size W Y) => hw.below hY
  obtain ⟨q, hq⟩ : ∃ q, W.heap.size = q := ⟨_, rfl⟩
  obtain ⟨nm, hnmE⟩ : ∃ nm, p.nm = nm := ⟨_, rfl⟩
  obtain ⟨n0, hn0⟩ : ∃ n0, p.b0.length = n0 := ⟨_, rfl⟩
  obtain ⟨n1, hn1⟩ : ∃ n1, p.b1.length = n1 := ⟨_, rfl⟩
  obtain ⟨L, hLn⟩ : ∃ L, p.ln.length = L := ⟨_, rfl⟩
  obtain ⟨n, hn⟩ : ∃ n, ws.length = n := ⟨_, rfl⟩
  simp only [hq, hnmE, hn0, hn1, hLn, hn] at hst z0 z1 zl hW0 hM hnm hws hRp hCk hWS ⊢
  have hsz : (W.alloc (.cells #[.string nm, .slice a0 n0 p0, .slice a1 n1 p1, .slice al L cl] 26)).heap.size = q + 1 := by rw [size_alloc, hq]
  have HP0 : Hid (P2 q W nm (.slice a0 n0 p0) (.slice a1 n1 p1) (.slice al L cl) W0) := hst
  have HRP : Hid _ := hRp
  have HCK : Hid _ := hCk
  have HWS : Hid (∀ Y, Below q W Y → RdS Y (.slice aw n cw) ws) := hWS
  have HMM : Hid _ := hM
  have HE : Hid (p.nm = nm ∧ ws.length = n ∧ ∀ x ∈ ws, x.size ≤ 140737488355328) := ⟨hnmE, hn, hwz⟩
  have CK := hCk W0 hst.old
  have d0 := hst.c0
  have d1 := hst.c1
  have d2 := hst.c2
  have d3 := hst.c3
  clear hst hRp hCk hWS hwc hw h0 h1 hl hnmE hn0 hn1 hLn hn hwz hsz
  by_cases hck : chk p = 0
  case neg =>
    have hM2 : mdf p ws = (zPt, chk p) := by rw [HMM.out, if_pos hck]
    obtain ⟨c, hc⟩ : ∃ c, chk p = c := ⟨_, rfl⟩
    rw [hc] at CK hM2 hck
    have HM : Hid (mdf p ws = (zPt, c)) := hM2
    have ec : (c == 0) = false := by simpa using hck
    clear hM hM2 hc hck
    go_enter Tryz.func20, Tryz.ntmps20
    go_upto_region 3 with (go_at_call 36; refine CK.mono ?_; rintro e w1 ⟨rfl, hb⟩; have HP1 : Hid (P2 q W nm (.slice a0 n0 p0) (.slice a1 n1 p1) (.slice al L cl) w1) := HP0.out.below hb; clear hb CK d0 d1 d2 d3)
    have r2 := HP1.out.row2
    go_wp2_with (with_reducible refine at_list ?_; refine wpList_store_row rfl 26 (.tmp 4) (.tmp 17) rfl (q + 1) zPat rfl rfl 26 zPat r2 (ip4 _ _ _ _) rfl (by simp [zPat, Value.oneCell']) ?_)
    try simp only [Exit.inBlock, Exit.then]
    refine bodyPost_ret (v := .tuple #[.agg zPat, .int .i64 c]) ?_ rfl ⟨below_setRow (HP1.out.old) _ (by omega) _, .agg zPat, by rw [HM.out], by rw [HM.out]; exact rdp_zpt _⟩
    exact results_row_tmp (P := Tryz.prog) (fn := Tryz.f20) (p := 4) (u := 5) (ty := 26) rfl _ _ (q + 1) 26 _ (0, 0) _ _ rfl (setRow_heap _ _ _ _ 26 _ r2) Tryz.underlying26 rfl (ip4 _ _ _ _) rfl
  obtain ⟨s0, s1, s2, s3, s4⟩ := shaped_all (chk_shaped hck)
  have HSH : Hid _ := And.intro s0 (And.intro s1 (And.intro s2 (And.intro s3 s4)))
  have hM2 := HMM.out
  rw [if_neg (fun h => h hck)] at hM2
  have HMD : Hid _ := hM2
  rw [hck] at CK
  clear hM hM2 s0 s1 s2 s3 s4 hck
  have hCP := fun Y (hY : Below q W Y) => copy_any _ p Y (HRP.out Y hY) (by have := HSH.out.1; omega) (by have := HSH.out.2.1; omega) (by have := HSH.out.2.2.2.1; omega) (fun x hx => by have := (HSH.out.2.2.2.2 x hx).2.2.1; omega)
  have HCP : Hid _ := hCP
  clear hCP
  go_enter Tryz.func20, Tryz.ntmps20
  go_upto_region 4 with (go_at_call 36; refine CK.mono ?_; rintro e w1 ⟨rfl, hb⟩; have HP1 : Hid (P2 q W nm (.slice a0 n0 p0) (.slice a1 n1 p1) (.slice al L cl) w1) := HP0.out.below hb; clear hb CK d0 d1 d2 d3)
  have CC := HCP.out w1 HP1.out.old
  have d0 := HP1.out.c0
  have d1 := HP1.out.c1
  have d2 := HP1.out.c2
  have d3 := HP1.out.c3
  obtain ⟨q1, hq1⟩ : ∃ q1, w1.heap.size = q1 := ⟨_, rfl⟩
  rw [hq1] at CC
  have HQ1 : Hid (q + 2 ≤ q1) := by show q + 2 ≤ q1; rw [← hq1]; exact HP1.out.lt
  go_upto_region 5 with (first
    | (go_at_call 37; refine CC.mono ?_; rintro e w2 ⟨u0, u1, l, fs, rfl, hlv, ho, hos, hb⟩; obtain ⟨x0, y0, hu0⟩ := own_slice' (hos.own (0, u0, p.b0) (by simp)); obtain ⟨x1, y1, hu1⟩ := own_slice' (hos.own (1, u1, p.b1) (by simp)); obtain ⟨xl, yl, rfl⟩ := own_slice' ho; simp only at hu0 hu1; subst hu0 hu1; have HP2 : Hid (P2 q W nm (.slice a0 n0 p0) (.slice a1 n1 p1) (.slice al L cl) w2) := HP1.out.below (by rw [hq1]; exact hb); have hrow2 := HP2.out.row; have HC2 : Hid (lvl fs = p.ln ∧ w2.ownsRow (q1 + 2) 55 2 (.slice xl fs.length yl) fs.length (lvc fs) ∧ OS (q1 + 2) (Value.slice xl fs.length yl).ownBlock.toList ((0, .slice x0 p.b0.length y0, p.b0) :: (1, .slice x1 p.b1.length y1, p.b1) :: fs) w2) := ⟨hlv, ho, hos⟩; rw [HE.out.1]; clear CC hlv ho hos hb d0 d1 d2 d3)
    | (with_reducible refine at_list ?_; refine wpList_store_row rfl 26 (.tmp 2) (.tmp 20) rfl q #[.string nm, .slice x0 p.b0.length y0, .slice x1 p.b1.length y1, .slice xl fs.length yl] rfl rfl 26 _ hrow2 (ip4 _ _ _ _) rfl (by simp [Value.oneCell']) ?_))
  have hms := ms_copy (q := q) (W := W) (p := p) (fs := fs) (w1 := w1) HP2.out HQ1.out HC2.out.1 HC2.out.2.1 HC2.out.2.2
  rw [HE.out.1] at hms
  obtain ⟨W3, hW3⟩ : ∃ W3, w2.setRow q #[.string nm, .slice x0 p.b0.length y0, .slice x1 p.b1.length y1, .slice xl fs.length yl] = W3 := ⟨_, rfl⟩
  rw [hW3] at hms
  simp only [hW3]
  have HM3 : Hid (MS q W nm (.slice x0 p.b0.length y0) (.slice x1 p.b1.length y1) (.slice xl fs.length yl) p.b0 p.b1 fs W3) := hms
  have HBD3 : Hid (Bd 0 p.b0 p.b1 fs (-1)) := by
    refine ⟨HSH.out.1, HSH.out.2.1, ?_, fun f hf => ?_, by decide, by decide⟩
    · have := HSH.out.2.2.2.1; rw [← HC2.out.1] at this; simpa [lvl] using this
    · have := HSH.out.2.2.2.2 (f.1, f.2.2) (by rw [← HC2.out.1]; exact List.mem_map.2 ⟨f, hf, rfl⟩)
      exact ⟨this.1, this.2.2.1⟩
  have HWD0 : Hid (wdsM p ws 0 = some (⟨nm, p.b0, p.b1, lvl fs⟩, -1)) := by
    show some (p, (-1 : Int)) = _
    rw [HC2.out.1, ← HE.out.1]
  clear hms hW3 hrow2
  go_wp2
  go_loopw [7, 8] (fun v7 v8 wr => ∃ (i : Nat) (last : Int) (u0 u1 ul : Value) (b0 b1 : List Int) (fs : List Lv), i ≤ n ∧ v8 = .int .i64 i ∧ v7 = .int .i64 last ∧ wdsM p ws i = some (⟨nm, b0, b1, lvl fs⟩, last) ∧ MS q W nm u0 u1 ul b0 b1 fs wr ∧ Bd i b0 b1 fs last) (fun _ v _ => n - (intOf v).toNat)
  case atStart => exact ⟨0, -1, _, _, _, _, _, fs, Nat.zero_le _, rfl, rfl, HWD0.out, HM3.out, HBD3.out⟩
  case round =>
    obtain ⟨i, last, u0, u1, ul, b0, b1, gs, hi, rfl, rfl, hwd, hms, hbd⟩ := hrel
    obtain ⟨x0, y0, rfl⟩ := own_slice' hms.o0
    obtain ⟨x1, y1, rfl⟩ := own_slice' hms.o1
    obtain ⟨xl, yl, hul⟩ : ∃ a cap, ul = .slice a gs.length cap := by obtain ⟨_, _, a, c, e, _⟩ := hms.ex; exact ⟨a, c, e⟩
    subst hul
    obtain ⟨m0, hm0⟩ : ∃ m0, b0.length = m0 := ⟨_, rfl⟩
    obtain ⟨m1, hm1⟩ : ∃ m1, b1.length = m1 := ⟨_, rfl⟩
    obtain ⟨mf, hmf⟩ : ∃ mf, gs.length = mf := ⟨_, rfl⟩
    simp only [hm0, hm1, hmf] at hms
    have HMS : Hid (MS q W nm (.slice x0 m0 y0) (.slice x1 m1 y1) (.slice xl mf yl) b0 b1 gs wr) := hms
    have HBD : Hid (Bd i b0 b1 gs last) := hbd
    have HL : Hid (b0.length = m0 ∧ b1.length = m1 ∧ gs.length = mf) := ⟨hm0, hm1, hmf⟩
    have HWD : Hid (wdsM p ws i = some (⟨nm, b0, b1, lvl gs⟩, last)) := hwd
    have hlast := hbd.2.2.2.2
    have hmf24 : mf ≤ 24 := by have := hbd.2.2.1; omega
    by_cases hlt : i < n
    · have b9 : (i : Int) < (n : Int) := by omega
      obtain ⟨-, gw, ow, rfl, hcw⟩ := (HWS.out wr hms.p2.old).at hlt
      have c := hcw _ (Below.refl _ _)
      have hwz : (ws.getD i ⟨#[]⟩).size ≤ 140737488355328 := HE.out.2.2 _ (by have := HE.out.2.1; simp [List.getD, show i < ws.length by omega])
      have hsf := strF (ws.getD i ⟨#[]⟩)
      have hwu : wdsM p ws (i + 1) = wd1 (decide (i = 0)) ⟨nm, b0, b1, lvl gs⟩ last (ws.getD i ⟨#[]⟩) := by
        show (match wdsM p ws i with | none => none | some (q, l) => _) = _
        rw [hwd]
      have hcw' : ∀ Y, Below wr.heap.size wr Y → Y.cell? ⟨gw, ow + i, none⟩ = some (.string (ws.getD i ⟨#[]⟩)) := hcw
      obtain ⟨x, hx⟩ : ∃ x, ws.getD i ⟨#[]⟩ = x := ⟨_, rfl⟩
      simp only [hx] at c hwz hsf hwu hcw'
      have HCW : Hid _ := hcw'
      have HWU : Hid _ := hwu
      have HNO : Hid (wdsM p ws (i + 1) = none → mdf p ws = (zPt, 1)) := fun h => by
        have h2 := wdsM_none (n - (i + 1)) (i + 1) h
        rw [show i + 1 + (n - (i + 1)) = n by omega] at h2
        rw [HMD.out, h2]
      have CN := number_any x wr hwz
      have hnb := nmb_le x
      have r2 := hms.p2.row2
      have d3 := hms.p2.c3
      clear hwd hms hbd hm0 hm1 hmf hcw hcw' hwu hx
      go_upto_region 12 with (go_at_call 38; refine CN.mono ?_; rintro e w4 ⟨rfl, rfl⟩)
      obtain ⟨N, hN⟩ : ∃ N, nmb x = N := ⟨_, rfl⟩
      rw [hN] at hnb
      simp only [hN]
      have HNX : Hid (nmb x = N) := hN
      clear hN CN
      by_cases hfb : x = fbW ∧ i = 0
      · obtain ⟨hx, hi0⟩ := hfb
        have hwd2 : wd1 (decide (i = 0)) ⟨nm, b0, b1, lvl gs⟩ last x = (bck ⟨nm, b0, b1, lvl gs⟩).map fun q => (q, last) := by
          unfold wd1
          rw [if_pos (by simp [hx, hi0])]
        rw [hwd2] at HWU
        have hmp : 0 < mf := by
          have h0 := HWD.out
          rw [hi0] at h0
          have h1 : some (p, (-1 : Int)) = some (⟨nm, b0, b1, lvl gs⟩, last) := h0
          injection h1 with h1
          injection h1 with h1 h2
          have h3 := HSH.out.2.2.1
          rw [h1] at h3
          have h4 : (lvl gs).length = mf := by rw [← HL.out.2.2]; simp [lvl]
          simp only at h3
          omega
        obtain ⟨g, o, yl', hvl, hcp, hgq, hgs, -⟩ := HMS.out.at (j := 0) (by have := HL.out.2.2; omega)
        rw [HL.out.2.2] at hvl hcp
        injection hvl with hv1 hv2 hv3
        subst hv1 hv3
        obtain ⟨n', hn'⟩ : ∃ n', mf = n' + 1 := ⟨mf - 1, by omega⟩
        obtain ⟨c', hc'⟩ : ∃ c', yl = c' + 1 := ⟨yl - 1, by omega⟩
        subst hn' hc'
        have hbd := HBD.out
        have CB := back_any ⟨nm, b0, b1, lvl gs⟩ w4 (.slice x0 m0 y0) (.slice x1 m1 y1) g o n' c' (own_ints (by rw [HL.out.1]; exact (by have := HMS.out.o0; rw [HL.out.1] at this; exact this)) (by simp only; have := hbd.1; omega)) (own_ints (by rw [HL.out.2.1]; exact (by have := HMS.out.o1; rw [HL.out.2.1] at this; exact this)) (by simp only; have := hbd.2.1; omega)) (HMS.out.rl (by have := hbd.2.2.1; omega) (fun f hf => by have := (hbd.2.2.2.1 f hf).2; omega)) (by simp only; have := hbd.1; omega) (by simp only; have := hbd.2.1; omega) (by omega) (by omega) (by
            have hm0 : gs.getD 0 (0, undef, []) ∈ gs := by have := HL.out.2.2; simp [List.getD, show 0 < gs.length by omega]
            have := (hbd.2.2.2.1 _ hm0).1
            have e : (lvl gs).getD 0 (0, []) = ((gs.getD 0 (0, undef, [])).1, (gs.getD 0 (0, undef, [])).2.2) := by have := HL.out.2.2; simp [lvl, List.getD, show 0 < gs.length by omega]
            rw [e]; exact this) (by
            have hm0 : gs.getD 0 (0, undef, []) ∈ gs := by have := HL.out.2.2; simp [List.getD, show 0 < gs.length by omega]
            have := (hbd.2.2.2.1 _ hm0).2
            have e : (lvl gs).getD 0 (0, []) = ((gs.getD 0 (0, undef, [])).1, (gs.getD 0 (0, undef, [])).2.2) := by have := HL.out.2.2; simp [lvl, List.getD, show 0 < gs.length by omega]
            rw [e]; simp only; omega)
        have e0 := HMS.out.p2.c0
        have e1 := HMS.out.p2.c1
        have e2 := HMS.out.p2.c2
        obtain ⟨q4, hq4⟩ : ∃ q4, w4.heap.size = q4 := ⟨_, rfl⟩
        have hsT : (x.toList == [102, 97, 108, 108, 98, 97, 99, 107]) = true := by rw [hsf, decide_eq_true hx]
        have hiz : ((i : Int) == 0) = true := by rw [hi0]; rfl
        have HI0 : Hid (i = 0) := hi0
        clear hsf hx hi0 hwd2 hgs hbd
        cases hbk : bck ⟨nm, b0, b1, lvl gs⟩ with
        | none =>
          have HM : Hid (mdf p ws = (zPt, 1)) := HNO.out (by rw [HWU.out, hbk]; rfl)
          have CB0 : Calls Tryz.prog 39 #[.agg #[.string nm, .slice x0 m0 y0, .slice x1 m1 y1, .slice (some ⟨g, o, none⟩) (n' + 1) (c' + 1)]] w4 fun e w' => e = .returned (.tuple #[.agg #[.string nm, .slice x0 m0 y0, .slice x1 m1 y1, .slice (some ⟨g, o, none⟩) (n' + 1) (c' + 1)], .bool false]) ∧ Below q4 w4 w' := CB.mono fun e w' k => by
            rcases k.2 with ⟨_, k2⟩ | ⟨x', f, C, a, g', o', n'', cap'', ev, _, _, _, hh⟩
            · exact ⟨k2, by rw [← hq4]; exact k.1⟩
            · rcases hh with ⟨_, h, _⟩ | ⟨_, h, _⟩ <;> (rw [hbk] at h; cases h)
          clear CB hbk
          go_upto_region 15 with (go_at_call 39; refine CB0.mono ?_; rintro e w5 ⟨rfl, hb⟩; have HP5 : Hid (P2 q W nm (.slice x0 m0 y0) (.slice x1 m1 y1) (.slice (some ⟨g, o, none⟩) (n' + 1) (c' + 1)) w5) := HMS.out.p2.below (by rw [hq4]; exact hb); clear hb CB0)
          have hp6 := HP5.out.below ((Below.refl w5.heap.size w5).alloc (Nat.le_refl _) (.cells #[.string nm, .slice x0 m0 y0, .slice x1 m1 y1, .slice (some ⟨g, o, none⟩) (n' + 1) (c' + 1)] 26))
          obtain ⟨W6, hW6⟩ : ∃ W6, w5.alloc (.cells #[.string nm, .slice x0 m0 y0, .slice x1 m1 y1, .slice (some ⟨g, o, none⟩) (n' + 1) (c' + 1)] 26) = W6 := ⟨_, rfl⟩
          rw [hW6] at hp6
          simp only [hW6]
          have HP6 : Hid (P2 q W nm (.slice x0 m0 y0) (.slice x1 m1 y1) (.slice (some ⟨g, o, none⟩) (n' + 1) (c' + 1)) W6) := hp6
          have r6 := hp6.row2
          clear hp6 hW6 r2
          go_wp2_with (with_reducible refine at_list ?_; refine wpList_store_row rfl 26 (.tmp 4) (.tmp 65) rfl (q + 1) zPat rfl rfl 26 zPat r6 (ip4 _ _ _ _) rfl (by simp [zPat, Value.oneCell']) ?_)
          try simp only [Exit.inBlock, Exit.then]
          refine bodyPost_ret (v := .tuple #[.agg zPat, .int .i64 1]) ?_ rfl ⟨below_setRow (HP6.out.old) _ (by omega) _, .agg zPat, by rw [HM.out], by rw [HM.out]; exact rdp_zpt _⟩
          exact results_row_tmp (P := Tryz.prog) (fn := Tryz.f20) (p := 4) (u := 5) (ty := 26) rfl _ _ (q + 1) 26 _ (0, 0) _ _ rfl (setRow_heap _ _ _ _ 26 _ r6) Tryz.underlying26 rfl (ip4 _ _ _ _) rfl
        | some Q =>
          have CB1 : Calls Tryz.prog 39 #[.agg #[.string nm, .slice x0 m0 y0, .slice x1 m1 y1, .slice (some ⟨g, o, none⟩) (n' + 1) (c' + 1)]] w4 fun e w' => ∃ (z0 z1 : Option Addr) (t0 t1 : Nat) (a : Option Addr) (d0 d1 : List Int), e = .returned (.tuple #[.agg #[.string nm, .slice z0 d0.length t0, .slice z1 d1.length t1, .slice a n' c'], .bool true]) ∧ Q = ⟨nm, d0, d1, (lvl gs).tail⟩ ∧ d0.length ≤ 2 ∧ d1.length ≤ 2 ∧ (∃ pre, OS (q + 2) pre ([(0, .slice z0 d0.length t0, d0), (1, .slice z1 d1.length t1, d1)] ++ gs.tail) w' ∧ LnX (q + 2) pre (.slice a n' c') gs.tail w') ∧ Below q4 w4 w' := CB.mono fun e w' k => by
            rcases k.2 with ⟨h, _⟩ | ⟨x', f, C, a, g', o', n'', cap'', ev, hx', ha, hC, hh⟩
            · rw [hbk] at h; cases h
            · injection ev with ev1 ev2 ev3
              injection ev1 with ev1
              injection ev1 with ev1 ev4
              subst ev1 ev4
              obtain rfl : n' = n'' := by omega
              obtain rfl : c' = cap'' := by omega
              have hfb := HMS.out.fb k.1 hx' rfl HL.out.2.2 ha
              obtain ⟨xa, xc, rfl⟩ := own_slice' hx'
              have hb4 : Below q4 w4 w' := by rw [← hq4]; exact k.1
              rcases hh with ⟨_, h, he⟩ | ⟨_, h, he⟩
              · rw [hbk] at h
                injection h with h
                have hm1 : m1 = b1.length := HL.out.2.1.symm
                subst hm1
                exact ⟨xa, x1, xc, y1, a, C, b1, he, h, hC, HBD.out.2.1, hfb.1, hb4⟩
              · rw [hbk] at h
                injection h with h
                have hm0 : m0 = b0.length := HL.out.1.symm
                subst hm0
                exact ⟨x0, xa, y0, xc, a, b0, C, he, h, HBD.out.1, hC, hfb.2, hb4⟩
          clear CB
          go_upto_region 14 with (go_at_call 39; refine CB1.mono ?_; rintro e w5 ⟨s0, s1, t0, t1, sa, d0, d1, rfl, hQ, hd0, hd1, hex, hb⟩; have HP5 : Hid (P2 q W nm (.slice x0 m0 y0) (.slice x1 m1 y1) (.slice (some ⟨g, o, none⟩) (n' + 1) (c' + 1)) w5) := HMS.out.p2.below (by rw [hq4]; exact hb); have HQ5 : Hid (Q = ⟨nm, d0, d1, (lvl gs).tail⟩ ∧ d0.length ≤ 2 ∧ d1.length ≤ 2 ∧ (∃ pre, OS (q + 2) pre ([(0, .slice s0 d0.length t0, d0), (1, .slice s1 d1.length t1, d1)] ++ gs.tail) w5 ∧ LnX (q + 2) pre (.slice sa n' c') gs.tail w5)) := ⟨hQ, hd0, hd1, hex⟩; clear hb CB1 hQ hd0 hd1 hex)
          have hal := (Below.refl w5.heap.size w5).alloc (Nat.le_refl _) (.cells #[.string nm, .slice s0 d0.length t0, .slice s1 d1.length t1, .slice sa n' c'] 26)
          have hrow6 : (w5.alloc (.cells #[.string nm, .slice s0 d0.length t0, .slice s1 d1.length t1, .slice sa n' c'] 26)).heap[w5.heap.size]? = some (.cells #[.string nm, .slice s0 d0.length t0, .slice s1 d1.length t1, .slice sa n' c'] 26) := heap_alloc_new _ _
          obtain ⟨W6, hW6⟩ : ∃ W6, w5.alloc (.cells #[.string nm, .slice s0 d0.length t0, .slice s1 d1.length t1, .slice sa n' c'] 26) = W6 := ⟨_, rfl⟩
          obtain ⟨tb, htb⟩ : ∃ tb, w5.heap.size = tb := ⟨_, rfl⟩
          rw [hW6, htb] at hrow6
          rw [hW6] at hal
          simp only [hW6, htb]
          have HP6 : Hid (P2 q W nm (.slice x0 m0 y0) (.slice x1 m1 y1) (.slice (some ⟨g, o, none⟩) (n' + 1) (c' + 1)) W6) := HP5.out.below hal
          have HX6 : Hid _ := ex_below HQ5.out.2.2.2 hal
          have f0 : W6.cell? ⟨tb, 0, none⟩ = some (.string nm) := by rw [cell_of_row _ _ _ _ _ _ hrow6]; rfl
          have f1 : W6.cell? ⟨tb, 1, none⟩ = some (.slice s0 d0.length t0) := by rw [cell_of_row _ _ _ _ _ _ hrow6]; rfl
          have f2 : W6.cell? ⟨tb, 2, none⟩ = some (.slice s1 d1.length t1) := by rw [cell_of_row _ _ _ _ _ _ hrow6]; rfl
          have f3 : W6.cell? ⟨tb, 3, none⟩ = some (.slice sa n' c') := by rw [cell_of_row _ _ _ _ _ _ hrow6]; rfl
          have r6 := HP6.out.row
          clear hal hrow6 hW6 htb e0 e1 e2 d3
          go_wp2_with (with_reducible refine at_list ?_; refine wpList_store_row rfl 26 (.tmp 2) (.tmp 66) rfl q #[.string nm, .slice s0 d0.length t0, .slice s1 d1.length t1, .slice sa n' c'] rfl rfl 26 _ r6 (ip4 _ _ _ _) rfl (by simp [Value.oneCell']) ?_)
          have hfin := ms_lay HP6.out HX6.out
          refine ⟨⟨i + 1, last, _, _, _, d0, d1, gs.tail, hlt, congrArg (Value.int .i64) (Int.natCast_succ i).symm, rfl, ?_, hfin, ?_⟩, by show n - ((i : Int) + 1).toNat < n - ((i : Int)).toNat; omega⟩
          · rw [HWU.out, hbk, HQ5.out.1]
            show some _ = some _
            rw [show lvl gs.tail = (lvl gs).tail by unfold lvl; rw [List.map_tail]]
          · refine ⟨HQ5.out.2.1, HQ5.out.2.2.1, by rw [List.length_tail]; have := HBD.out.2.2.1; omega, fun f hf => ?_, HBD.out.2.2.2.2⟩
            have := HBD.out.2.2.2.1 f (List.mem_of_mem_tail hf)
            exact ⟨this.1, by omega⟩
      have hwd2 : wd1 (decide (i = 0)) ⟨nm, b0, b1, lvl gs⟩ last x = if N < 0 ∨ N ≤ last ∨ (((lvl gs).length : Nat) : Int) < N ∨ (lvl gs).length = 0 then none else if N = 0 then some (⟨nm, b0, b1, (lvl gs).set 0 (((lvl gs).getD 0 (0, [])).1, 7 :: ((lvl gs).getD 0 (0, [])).2)⟩, 0) else some (⟨nm, b0, b1, (lvl gs).set (N.toNat - 1) (((lvl gs).getD (N.toNat - 1) (0, [])).1, ((lvl gs).getD (N.toNat - 1) (0, [])).2 ++ [7])⟩, N) := by
        unfold wd1
        rw [if_neg (by simpa using hfb), HNX.out]
      have hll : (lvl gs).length = mf := by rw [← HL.out.2.2]; simp [lvl]
      rw [hll] at hwd2
      have hfB : (decide (x = fbW) && ((i : Int) == 0)) = false := by
        by_cases h : x = fbW
        · have : ¬ i = 0 := fun e => hfb ⟨h, e⟩
          have : ((i : Int) == 0) = false := by simp; omega
          rw [this, Bool.and_false]
        · rw [decide_eq_false h, Bool.false_and]
      have hcase : ∃ a b, decide (x = fbW) = a ∧ ((i : Int) == 0) = b ∧ (a && b) = false := ⟨_, _, rfl, rfl, hfB⟩
      obtain ⟨fa, fb, ha, hb, hab⟩ := hcase
      rw [ha] at hsf
      rw [hwd2] at HWU
      clear hfb hfB ha hwd2 hll
      go_cut [48] from 49 to 57 (fun v48 wx => v48 = .bool false ∧ wx = w4)
      case first =>
        rcases fa with _ | _ <;> rcases fb with _ | _
        case true.true => cases hab
        all_goals
          clear hab
          go_wp2
          go_meet
          case rel => exact ⟨rfl, rfl⟩
      case rest =>
        obtain ⟨rfl, rfl⟩ := hcut
        clear hsf hb hab
        by_cases hN0 : N < 0
        · have g0 : decide (N < 0) = true := decide_eq_true hN0
          have HM : Hid (mdf p ws = (zPt, 1)) := HNO.out (by rw [HWU.out, if_pos (.inl hN0)])
          go_upto_region 18 with fail
          go_wp2_with (with_reducible refine at_list ?_; refine wpList_store_row rfl 26 (.tmp 4) (.tmp 88) rfl (q + 1) zPat rfl rfl 26 zPat r2 (ip4 _ _ _ _) rfl (by simp [zPat, Value.oneCell']) ?_)
          try simp only [Exit.inBlock, Exit.then]
          refine bodyPost_ret (v := .tuple #[.agg zPat, .int .i64 1]) ?_ rfl ⟨below_setRow (HMS.out.p2.old) _ (by omega) _, .agg zPat, by rw [HM.out], by rw [HM.out]; exact rdp_zpt _⟩
          exact results_row_tmp (P := Tryz.prog) (fn := Tryz.f20) (p := 4) (u := 5) (ty := 26) rfl _ _ (q + 1) 26 _ (0, 0) _ _ rfl (setRow_heap _ _ _ _ 26 _ r2) Tryz.underlying26 rfl (ip4 _ _ _ _) rfl
        have g0 : decide (N < 0) = false := decide_eq_false hN0
        by_cases hNl : N ≤ last
        · have g1 : decide (N ≤ last) = true := decide_eq_true hNl
          have HM : Hid (mdf p ws = (zPt, 1)) := HNO.out (by rw [HWU.out, if_pos (.inr (.inl hNl))])
          go_upto_region 18 with fail
          go_wp2_with (with_reducible refine at_list ?_; refine wpList_store_row rfl 26 (.tmp 4) (.tmp 88) rfl (q + 1) zPat rfl rfl 26 zPat r2 (ip4 _ _ _ _) rfl (by simp [zPat, Value.oneCell']) ?_)
          try simp only [Exit.inBlock, Exit.then]
          refine bodyPost_ret (v := .tuple #[.agg zPat, .int .i64 1]) ?_ rfl ⟨below_setRow (HMS.out.p2.old) _ (by omega) _, .agg zPat, by rw [HM.out], by rw [HM.out]; exact rdp_zpt _⟩
          exact results_row_tmp (P := Tryz.prog) (fn := Tryz.f20) (p := 4) (u := 5) (ty := 26) rfl _ _ (q + 1) 26 _ (0, 0) _ _ rfl (setRow_heap _ _ _ _ 26 _ r2) Tryz.underlying26 rfl (ip4 _ _ _ _) rfl
        have g1 : decide (N ≤ last) = false := decide_eq_false hNl
        by_cases hNm : (mf : Int) < N
        · have g2 : decide ((mf : Int) < N) = true := decide_eq_true hNm
          have HM : Hid (mdf p ws = (zPt, 1)) := HNO.out (by rw [HWU.out, if_pos (.inr (.inr (.inl hNm)))])
          go_upto_region 18 with fail
          go_wp2_with (with_reducible refine at_list ?_; refine wpList_store_row rfl 26 (.tmp 4) (.tmp 88) rfl (q + 1) zPat rfl rfl 26 zPat r2 (ip4 _ _ _ _) rfl (by simp [zPat, Value.oneCell']) ?_)
          try simp only [Exit.inBlock, Exit.then]
          refine bodyPost_ret (v := .tuple #[.agg zPat, .int .i64 1]) ?_ rfl ⟨below_setRow (HMS.out.p2.old) _ (by omega) _, .agg zPat, by rw [HM.out], by rw [HM.out]; exact rdp_zpt _⟩
          exact results_row_tmp (P := Tryz.prog) (fn := Tryz.f20) (p := 4) (u := 5) (ty := 26) rfl _ _ (q + 1) 26 _ (0, 0) _ _ rfl (setRow_heap _ _ _ _ 26 _ r2) Tryz.underlying26 rfl (ip4 _ _ _ _) rfl
        have g2 : decide ((mf : Int) < N) = false := decide_eq_false hNm
        by_cases hmz : mf = 0
        · have g3 : ((mf : Int) == 0) = true := by rw [hmz]; rfl
          have HM : Hid (mdf p ws = (zPt, 1)) := HNO.out (by rw [HWU.out, if_pos (.inr (.inr (.inr hmz)))])
          clear hmz
          go_upto_region 18 with fail
          go_wp2_with (with_reducible refine at_list ?_; refine wpList_store_row rfl 26 (.tmp 4) (.tmp 88) rfl (q + 1) zPat rfl rfl 26 zPat r2 (ip4 _ _ _ _) rfl (by simp [zPat, Value.oneCell']) ?_)
          try simp only [Exit.inBlock, Exit.then]
          refine bodyPost_ret (v := .tuple #[.agg zPat, .int .i64 1]) ?_ rfl ⟨below_setRow (HMS.out.p2.old) _ (by omega) _, .agg zPat, by rw [HM.out], by rw [HM.out]; exact rdp_zpt _⟩
          exact results_row_tmp (P := Tryz.prog) (fn := Tryz.f20) (p := 4) (u := 5) (ty := 26) rfl _ _ (q + 1) 26 _ (0, 0) _ _ rfl (setRow_heap _ _ _ _ 26 _ r2) Tryz.underlying26 rfl (ip4 _ _ _ _) rfl
        have g3 : ((mf : Int) == 0) = false := by simp; omega
        rw [if_neg (by omega)] at HWU
        by_cases hNz : N = 0
        · rw [if_pos hNz] at HWU
          subst hNz
          clear g0 hN0
          have hdr := HMS.out.below (drew_below (Below.refl wc.heap.size wc))
          obtain ⟨wd, hwd⟩ : ∃ wd, wc.drew = wd := ⟨_, rfl⟩
          rw [hwd] at hdr
          have HDB : Hid (Below wc.heap.size wc wd) := by rw [← hwd]; exact drew_below (Below.refl _ _)
          obtain ⟨g, o, yl', hvl, hcp, hgq, hgs, k0, k1, kf, ko⟩ := hdr.at (j := 0) (by have := HL.out.2.2; omega)
          rw [HL.out.2.2] at hvl
          injection hvl with hv1 hv2 hv3
          subst hv1 hv3
          have hmem : gs.getD 0 (0, undef, []) ∈ gs := by have := HL.out.2.2; simp [List.getD, show 0 < gs.length by omega]
          have hbm := HBD.out.2.2.2.1 _ hmem
          have hpt : ∀ (w' : World) (row : Option Nat) (x : Value) (C : List Int), wd.grownBy w' row → (∀ k, row = some k → q + 2 ≤ k ∧ (k = wd.heap.size ∨ wd.heap.size < k ∨ (gs.getD 0 (0, undef, [])).2.1.ownBlock = some k)) → w'.ownsRow (q + 2) 3 1 x C.length (C.map (Value.int .i64)) → (x.ownBlock = (gs.getD 0 (0, undef, [])).2.1.ownBlock ∨ ∀ k, x.ownBlock = some k → wd.heap.size ≤ k) → _ := fun w' row x C hg hr hx hxb => hdr.put (by rw [HL.out.2.2]) (by have := HL.out.2.2; omega) hg hr hx hxb
          have hlg : (lvl gs).getD 0 (0, []) = ((gs.getD 0 (0, undef, [])).1, (gs.getD 0 (0, undef, [])).2.2) := by have := HL.out.2.2; simp [lvl, List.getD, show 0 < gs.length by omega]
          have hls : ∀ (f : Int) (v : Value) (C : List Int), lvl (gs.set 0 (f, v, C)) = (lvl gs).set 0 (f, C) := fun f v C => by unfold lvl; rw [List.map_set]
          obtain ⟨f0, tu, tC, hgd⟩ : ∃ a b c, gs.getD 0 (0, undef, []) = (a, b, c) := ⟨_, _, _, rfl⟩
          simp only [hgd] at k0 k1 ko hbm hpt hlg
          rw [hlg] at HWU
          simp only at HWU
          obtain ⟨xt, yt, rfl⟩ := own_slice' ko
          have htC : tC.length ≤ 224 := by omega
          have HPT : Hid _ := hpt
          have HMS2 : Hid _ := hdr
          have HKO : Hid (wd.ownsRow (q + 2) 3 1 (.slice xt tC.length yt) tC.length (tC.map (Value.int .i64))) := ko
          have HLS : Hid _ := hls
          have HBM : Hid (f0 = 0 ∨ f0 = 1) := hbm.1
          have hq2 : q + 2 ≤ wd.heap.size := hdr.p2.lt
          have hd3 := hdr.p2.c3
          clear hpt hdr hls hlg hmem hgd
          simp only [Nat.zero_mul, Nat.add_zero] at k0 k1 kf
          have hmp : (0 : Int) < (mf : Int) := by omega
          have hb20 : (decide ((0 : Int) = 0)) = true := by decide
          go_upto_region 20 with fail
          refine Go.Pin.wp_region_L (fun Y => Y.cell? ⟨q, 3, none⟩ = some (.slice (some ⟨g, o, none⟩) mf yl) ∧ Y.cell? ⟨g, o + 1, none⟩ = some (.slice xt tC.length yt)) 11 12 (by rfl) (by kernel_rfl) (by rw [hwd]; exact ⟨hd3, k1⟩) ?_
          intro Sq fq hNq hRq hSq
          have y3 := fun x => (hRq x).1
          have y4 := fun x => (hRq x).2
          rw [hwd]
          have st0 : wd.cell? ⟨q, 3, none⟩ = some (.slice (some ⟨g, o, none⟩) mf yl) ∧ wd.cell? ⟨g, o + 1, none⟩ = some (.slice xt tC.length yt) := ⟨hd3, k1⟩
          refine Go.Pin.takeL 0 (by simp only [List.getElem?_toArray, List.getElem?_cons_zero, List.getElem?_cons_succ]; exact rfl) (by simp only [List.getElem?_toArray, List.getElem?_cons_zero, List.getElem?_cons_succ]; exact rfl) (by kernel_rfl) (by kernel_rfl) (by kernel_rfl) (by kernel_rfl) (by rfl) (fun _ _ d _ _ h => by cases d <;> exact h) (st0) (hSq).out (by kernel_rfl) ?_
          intro Kq hKq
          go_big_quiet_op
          go_big_quiet_on
          refine Go.Pin.takeL 1 (by simp only [List.getElem?_toArray, List.getElem?_cons_zero, List.getElem?_cons_succ]; exact rfl) (by simp only [List.getElem?_toArray, List.getElem?_cons_zero, List.getElem?_cons_succ]; exact rfl) (by kernel_rfl) (by kernel_rfl) (by kernel_rfl) (by kernel_rfl) (by rfl) (fun _ _ d _ _ h => by cases d <;> exact h) (st0) (hSq).out (by kernel_rfl) ?_
          intro Kq hKq
          go_big_quiet_op
          go_big_quiet_on
          refine Go.Pin.takeL 3 (by simp only [List.getElem?_toArray, List.getElem?_cons_zero, List.getElem?_cons_succ]; exact rfl) (by simp only [List.getElem?_toArray, List.getElem?_cons_zero, List.getElem?_cons_succ]; exact rfl) (by kernel_rfl) (by kernel_rfl) (by kernel_rfl) (by kernel_rfl) (by rfl) (fun _ _ d _ _ h => by cases d <;> exact h) (st0) (hSq).out (by kernel_rfl) ?_
          intro Kq hKq
          go_big_quiet_op
          go_big_quiet_on
          refine Go.Pin.takeL 4 (by simp only [List.getElem?_toArray, List.getElem?_cons_zero, List.getElem?_cons_succ]; exact rfl) (by simp only [List.getElem?_toArray, List.getElem?_cons_zero, List.getElem?_cons_succ]; exact rfl) (by kernel_rfl) (by kernel_rfl) (by kernel_rfl) (by kernel_rfl) (by rfl) (fun _ _ d _ _ h => by cases d <;> exact h) (st0) (hSq).out (by kernel_rfl) ?_
          intro Kq hKq
          go_big_quiet_op
          go_big_quiet_on
          refine Go.Pin.takeL 5 (by simp only [List.getElem?_toArray, List.getElem?_cons_zero, List.getElem?_cons_succ]; exact rfl) (by simp only [List.getElem?_toArray, List.getElem?_cons_zero, List.getElem?_cons_succ]; exact rfl) (by kernel_rfl) (by kernel_rfl) (by kernel_rfl) (by kernel_rfl) (by rfl) (fun _ _ d _ _ h => by cases d <;> exact h) (st0) (hSq).out (by kernel_rfl) ?_
          intro Kq hKq
          go_big_quiet_op
          go_big_quiet_on
          refine Go.Pin.takeL 6 (by simp only [List.getElem?_toArray, List.getElem?_cons_zero, List.getElem?_cons_succ]; exact rfl) (by simp only [List.getElem?_toArray, List.getElem?_cons_zero, List.getElem?_cons_succ]; exact rfl) (by kernel_rfl) (by kernel_rfl) (by kernel_rfl) (by kernel_rfl) (by rfl) (fun _ _ d _ _ h => by cases d <;> exact h) (st0) (hSq).out (by kernel_rfl) ?_
          intro Kq hKq
          go_big_quiet_op
          go_big_quiet_on
          refine Go.Pin.takeL 7 (by simp only [List.getElem?_toArray, List.getElem?_cons_zero, List.getElem?_cons_succ]; exact rfl) (by simp only [List.getElem?_toArray, List.getElem?_cons_zero, List.getElem?_cons_succ]; exact rfl) (by kernel_rfl) (by kernel_rfl) (by kernel_rfl) (by kernel_rfl) (by rfl) (fun _ _ d _ _ h => by cases d <;> exact h) (st0) (hSq).out (by kernel_rfl) ?_
          intro Kq hKq
          go_big_quiet_op
          go_big_quiet_on
          have hal := (Below.refl wd.heap.size wd).alloc (Nat.le_refl _) (.cells #[.int .i64 7] 3)
          have st1 : (wd.alloc (.cells #[.int .i64 7] 3)).cell? ⟨q, 3, none⟩ = some (.slice (some ⟨g, o, none⟩) mf yl) ∧ (wd.alloc (.cells #[.int .i64 7] 3)).cell? ⟨g, o + 1, none⟩ = some (.slice xt tC.length yt) := ⟨cell_below hal hd3, cell_below hal k1⟩
          have happ := own_appN (own_one7 wd (q + 2) 7 hq2) (own_ints (owns_below hal HKO.out) (by omega)) (by omega) (by rw [size_alloc]; omega)
          refine Go.Pin.readyL 2 (by simp only [List.getElem?_toArray, List.getElem?_cons_zero, List.getElem?_cons_succ]; exact rfl) (by kernel_rfl) (by kernel_rfl) ?_
          intro K hK
          refine wpRun (d := some 94) (v := .slice (some ⟨wd.heap.size, 0, none⟩) 1 1) (w' := wd.alloc (.cells #[.int .i64 7] 3)) rfl (by unfold execOp; go_simp) (hK _ _ (.inr st1) ?_)
          simp only [Act.put, List.setIfInBounds_toArray, List.set_cons_zero, List.set_cons_succ]
          clear hK K
          refine Go.Pin.readyL 8 (by simp only [List.getElem?_toArray, List.getElem?_cons_zero, List.getElem?_cons_succ]; exact rfl) (by kernel_rfl) (by kernel_rfl) ?_
          intro K hK
          refine wpApp (d := some 100) (v := .slice (some ⟨wd.heap.size, 0, none⟩) 1 1) (u := .slice xt tC.length yt) (R := fun v' w' => w'.ownsRow (q + 2) 3 1 v' (1 + tC.length) ([.int .i64 7] ++ tC.map (Value.int .i64)) ∧ (wd.alloc (.cells #[.int .i64 7] 3)).grownBy w' (Value.slice (some ⟨wd.heap.size, 0, none⟩) 1 1).ownBlock ∧ (v'.ownBlock = (Value.slice (some ⟨wd.heap.size, 0, none⟩) 1 1).ownBlock ∨ v'.ownBlock = some (wd.alloc (.cells #[.int .i64 7] 3)).heap.size)) rfl rfl rfl rfl happ (fun v' w6 h6 => ?_)
          obtain ⟨an, cn, hv6⟩ := own_slice' h6.1
          have hv6' : v' = .slice an (7 :: tC).length cn := by rw [hv6, List.length_cons, Nat.add_comm]
          subst hv6'
          have hx6 : w6.ownsRow (q + 2) 3 1 (.slice an (7 :: tC).length cn) (7 :: tC).length ((7 :: tC).map (Value.int .i64)) := by
            have := h6.1
            rw [Nat.add_comm 1 tC.length] at this
            exact this
          have hgr := grown_alloc h6.2.1
          have hrr : ∀ k, (Value.slice (some ⟨wd.heap.size, 0, none⟩) 1 1).ownBlock = some k → q + 2 ≤ k ∧ (k = wd.heap.size ∨ wd.heap.size < k ∨ (Value.slice xt tC.length yt).ownBlock = some k) := fun k hk => by
            injection hk with hk
            have hk : wd.heap.size = k := hk
            exact ⟨by omega, .inl hk.symm⟩
          have hxb : (Value.slice an (7 :: tC).length cn).ownBlock = (Value.slice xt tC.length yt).ownBlock ∨ ∀ k, (Value.slice an (7 :: tC).length cn).ownBlock = some k → wd.heap.size ≤ k := .inr (fun k hk => by
            rcases h6.2.2 with e | e
            · rw [hk] at e; injection e with e; have e : k = wd.heap.size := e; omega
            · rw [hk, size_alloc] at e; injection e with e; omega)
          have hfin := HPT.out w6 _ (.slice an (7 :: tC).length cn) ((7 :: tC)) hgr hrr hx6 hxb
          have HF : Hid _ := hfin.1
          have HNW : Hid (wdsM p ws (i + 1) = some (⟨nm, b0, b1, lvl (gs.set 0 (f0, .slice an (7 :: tC).length cn, (7 :: tC)))⟩, 0)) := by show _ = _; rw [HWU.out, HLS.out]
          have HBN : Hid (Bd (i + 1) b0 b1 (gs.set 0 (f0, .slice an (7 :: tC).length cn, (7 :: tC))) 0) := by
            refine ⟨HBD.out.1, HBD.out.2.1, by rw [List.length_set]; exact HBD.out.2.2.1, fun f hf => ?_, by omega, by omega⟩
            rcases List.mem_or_eq_of_mem_set hf with hf | hf
            · have := HBD.out.2.2.2.1 f hf; exact ⟨this.1, by omega⟩
            · subst hf; exact ⟨HBM.out, by simp only [List.length_cons, List.length_append, List.length_nil]; omega⟩
          have hc6 := hfin.2.1
          have hz6 := hfin.2.2
          have hc36 := (HMS2.out.p2.grownO hgr (fun k hk => (hrr k hk).1)).c3
          simp only [Nat.zero_mul, Nat.add_zero] at hc6 hz6 HF
          have st6 : w6.cell? ⟨q, 3, none⟩ = some (.slice (some ⟨g, o, none⟩) mf yl) ∧ w6.cell? ⟨g, o + 1, none⟩ = some (.slice xt tC.length yt) := ⟨hc36, hc6⟩
          refine hK _ _ (.inr st6) ?_
          simp only [Act.put, List.setIfInBounds_toArray, List.set_cons_zero, List.set_cons_succ]
          clear hK K
          refine Go.Pin.readyL 9 (by simp only [List.getElem?_toArray, List.getElem?_cons_zero, List.getElem?_cons_succ]; exact rfl) (by kernel_rfl) (by kernel_rfl) ?_
          intro K hK
          refine wpRun (d := some 101) (v := .pointer (some ⟨g, o, none⟩)) (w' := w6) rfl (by unfold execOp; go_simp) (hK _ _ (.inr st6) ?_)
          simp only [Act.put, List.setIfInBounds_toArray, List.set_cons_zero, List.set_cons_succ]
          clear hK K
          refine Go.Pin.takeL 10 (by simp only [List.getElem?_toArray, List.getElem?_cons_zero, List.getElem?_cons_succ]; exact rfl) (by simp only [List.getElem?_toArray, List.getElem?_cons_zero, List.getElem?_cons_succ]; exact rfl) (by kernel_rfl) (by kernel_rfl) (by kernel_rfl) (by kernel_rfl) (by rfl) (fun _ _ d _ _ h => by cases d <;> exact h) (st6) (hSq).out (by kernel_rfl) ?_
          intro Kq hKq
          go_big_quiet_op
          go_big_quiet_on
          refine Go.Pin.readyL 11 (by simp only [List.getElem?_toArray, List.getElem?_cons_zero, List.getElem?_cons_succ]; exact rfl) (by kernel_rfl) (by kernel_rfl) ?_
          intro K hK
          unfold Oper.wp execOp
          go_simp
          refine hK _ _ (.inl rfl) ?_
          clear hK K
          refine Go.Pin.wpL_done (by kernel_rfl) ?_
          simp only [List.length_cons] at HF HNW HBN
          obtain ⟨W7, hW7⟩ : ∃ W7, w6.setCell ⟨g, o + 1, none⟩ (.slice an (tC.length + 1) cn) = W7 := ⟨_, rfl⟩
          rw [hW7] at HF
          simp only [hW7]
          have HF7 : Hid _ := HF.out
          clear hW7 hfin h6 hx6 hgr hrr hxb hc6 hz6 hc36 st6 st1 st0 happ hal hSq hRq hNq y3 y4 hwd hd3 k0 k1 kf ko HF hv6 HPT
          go_wp2
          exact ⟨⟨i + 1, 0, _, _, _, b0, b1, _, hlt, congrArg (Value.int .i64) (Int.natCast_succ i).symm, rfl, HNW.out, HF7.out, HBN.out⟩, by show n - ((i : Int) + 1).toNat < n - ((i : Int)).toNat; omega⟩
        · rw [if_neg hNz] at HWU
          obtain ⟨j, hj⟩ : ∃ j : Nat, N = (j : Int) + 1 := ⟨N.toNat - 1, by omega⟩
          subst hj
          have hjt : ((j : Int) + 1).toNat - 1 = j := by omega
          rw [hjt] at HWU
          have hsub : (j : Int) + 1 - 1 = (j : Int) := by omega
          have gN : ((j : Int) + 1 == 0) = false := by simp; omega
          have hjm : (j : Int) < (mf : Int) := by omega
          clear hjt hN0 g0 hNz
          have g0 : decide ((j : Int) + 1 < 0) = false := decide_eq_false (by omega)
          have hdr := HMS.out.below (drew_below (Below.refl wc.heap.size wc))
          obtain ⟨wd, hwd⟩ : ∃ wd, wc.drew = wd := ⟨_, rfl⟩
          rw [hwd] at hdr
          have HDB : Hid (Below wc.heap.size wc wd) := by rw [← hwd]; exact drew_below (Below.refl _ _)
          obtain ⟨g, o, yl', hvl, hcp, hgq, hgs, k0, k1, kf, ko⟩ := hdr.at (j := j) (by have := HL.out.2.2; omega)
          rw [HL.out.2.2] at hvl
          injection hvl with hv1 hv2 hv3
          subst hv1 hv3
          have hmem : gs.getD j (0, undef, []) ∈ gs := by have := HL.out.2.2; simp [List.getD, show j < gs.length by omega]
          have hbm := HBD.out.2.2.2.1 _ hmem
          have hpt : ∀ (w' : World) (row : Option Nat) (x : Value) (C : List Int), wd.grownBy w' row → (∀ k, row = some k → q + 2 ≤ k ∧ (k = wd.heap.size ∨ wd.heap.size < k ∨ (gs.getD j (0, undef, [])).2.1.ownBlock = some k)) → w'.ownsRow (q + 2) 3 1 x C.length (C.map (Value.int .i64)) → (x.ownBlock = (gs.getD j (0, undef, [])).2.1.ownBlock ∨ ∀ k, x.ownBlock = some k → wd.heap.size ≤ k) → _ := fun w' row x C hg hr hx hxb => hdr.put (by rw [HL.out.2.2]) (by have := HL.out.2.2; omega) hg hr hx hxb
          have hlg : (lvl gs).getD j (0, []) = ((gs.getD j (0, undef, [])).1, (gs.getD j (0, undef, [])).2.2) := by have := HL.out.2.2; simp [lvl, List.getD, show j < gs.length by omega]
          have hls : ∀ (f : Int) (v : Value) (C : List Int), lvl (gs.set j (f, v, C)) = (lvl gs).set j (f, C) := fun f v C => by unfold lvl; rw [List.map_set]
          obtain ⟨f0, tu, tC, hgd⟩ : ∃ a b c, gs.getD j (0, undef, []) = (a, b, c) := ⟨_, _, _, rfl⟩
          simp only [hgd] at k0 k1 ko hbm hpt hlg
          rw [hlg] at HWU
          simp only at HWU
          obtain ⟨xt, yt, rfl⟩ := own_slice' ko
          have htC : tC.length ≤ 224 := by omega
          have HPT : Hid _ := hpt
          have HMS2 : Hid _ := hdr
          have HKO : Hid (wd.ownsRow (q + 2) 3 1 (.slice xt tC.length yt) tC.length (tC.map (Value.int .i64))) := ko
          have HLS : Hid _ := hls
          have HBM : Hid (f0 = 0 ∨ f0 = 1) := hbm.1
          have hq2 : q + 2 ≤ wd.heap.size := hdr.p2.lt
          have hd3 := hdr.p2.c3
          clear hpt hdr hls hlg hmem hgd
          go_upto_region 10 with fail
          refine Go.Pin.wp_region_L (fun Y => Y.cell? ⟨q, 3, none⟩ = some (.slice (some ⟨g, o, none⟩) mf yl) ∧ Y.cell? ⟨g, o + j * 2 + 1, none⟩ = some (.slice xt tC.length yt)) 15 16 (by rfl) (by kernel_rfl) (by rw [hwd]; exact ⟨hd3, k1⟩) ?_
          intro Sq fq hNq hRq hSq
          have y3 := fun x => (hRq x).1
          have y4 := fun x => (hRq x).2
          rw [hwd]
          have st0 : wd.cell? ⟨q, 3, none⟩ = some (.slice (some ⟨g, o, none⟩) mf yl) ∧ wd.cell? ⟨g, o + j * 2 + 1, none⟩ = some (.slice xt tC.length yt) := ⟨hd3, k1⟩
          refine Go.Pin.takeL 0 (by simp only [List.getElem?_toArray, List.getElem?_cons_zero, List.getElem?_cons_succ]; exact rfl) (by simp only [List.getElem?_toArray, List.getElem?_cons_zero, List.getElem?_cons_succ]; exact rfl) (by kernel_rfl) (by kernel_rfl) (by kernel_rfl) (by kernel_rfl) (by rfl) (fun _ _ d _ _ h => by cases d <;> exact h) (st0) (hSq).out (by kernel_rfl) ?_
          intro Kq hKq
          go_big_quiet_op
          go_big_quiet_on
          refine Go.Pin.takeL 1 (by simp only [List.getElem?_toArray, List.getElem?_cons_zero, List.getElem?_cons_succ]; exact rfl) (by simp only [List.getElem?_toArray, List.getElem?_cons_zero, List.getElem?_cons_succ]; exact rfl) (by kernel_rfl) (by kernel_rfl) (by kernel_rfl) (by kernel_rfl) (by rfl) (fun _ _ d _ _ h => by cases d <;> exact h) (st0) (hSq).out (by kernel_rfl) ?_
          intro Kq hKq
          go_big_quiet_op
          go_big_quiet_on
          refine Go.Pin.takeL 2 (by simp only [List.getElem?_toArray, List.getElem?_cons_zero, List.getElem?_cons_succ]; exact rfl) (by simp only [List.getElem?_toArray, List.getElem?_cons_zero, List.getElem?_cons_succ]; exact rfl) (by kernel_rfl) (by kernel_rfl) (by kernel_rfl) (by kernel_rfl) (by rfl) (fun _ _ d _ _ h => by cases d <;> exact h) (st0) (hSq).out (by kernel_rfl) ?_
          intro Kq hKq
          go_big_quiet_op
          go_big_quiet_on
          refine Go.Pin.takeL 3 (by simp only [List.getElem?_toArray, List.getElem?_cons_zero, List.getElem?_cons_succ]; exact rfl) (by simp only [List.getElem?_toArray, List.getElem?_cons_zero, List.getElem?_cons_succ]; exact rfl) (by kernel_rfl) (by kernel_rfl) (by kernel_rfl) (by kernel_rfl) (by rfl) (fun _ _ d _ _ h => by cases d <;> exact h) (st0) (hSq).out (by kernel_rfl) ?_
          intro Kq hKq
          go_big_quiet_op
          go_big_quiet_on
          refine Go.Pin.takeL 4 (by simp only [List.getElem?_toArray, List.getElem?_cons_zero, List.getElem?_cons_succ]; exact rfl) (by simp only [List.getElem?_toArray, List.getElem?_cons_zero, List.getElem?_cons_succ]; exact rfl) (by kernel_rfl) (by kernel_rfl) (by kernel_rfl) (by kernel_rfl) (by rfl) (fun _ _ d _ _ h => by cases d <;> exact h) (st0) (hSq).out (by kernel_rfl) ?_
          intro Kq hKq
          go_big_quiet_op
          go_big_quiet_on
          refine Go.Pin.takeL 5 (by simp only [List.getElem?_toArray, List.getElem?_cons_zero, List.getElem?_cons_succ]; exact rfl) (by simp only [List.getElem?_toArray, List.getElem?_cons_zero, List.getElem?_cons_succ]; exact rfl) (by kernel_rfl) (by kernel_rfl) (by kernel_rfl) (by kernel_rfl) (by rfl) (fun _ _ d _ _ h => by cases d <;> exact h) (st0) (hSq).out (by kernel_rfl) ?_
          intro Kq hKq
          go_big_quiet_op
          go_big_quiet_on
          refine Go.Pin.takeL 6 (by simp only [List.getElem?_toArray, List.getElem?_cons_zero, List.getElem?_cons_succ]; exact rfl) (by simp only [List.getElem?_toArray, List.getElem?_cons_zero, List.getElem?_cons_succ]; exact rfl) (by kernel_rfl) (by kernel_rfl) (by kernel_rfl) (by kernel_rfl) (by rfl) (fun _ _ d _ _ h => by cases d <;> exact h) (st0) (hSq).out (by kernel_rfl) ?_
          intro Kq hKq
          go_big_quiet_op
          go_big_quiet_on
          refine Go.Pin.takeL 7 (by simp only [List.getElem?_toArray, List.getElem?_cons_zero, List.getElem?_cons_succ]; exact rfl) (by simp only [List.getElem?_toArray, List.getElem?_cons_zero, List.getElem?_cons_succ]; exact rfl) (by kernel_rfl) (by kernel_rfl) (by kernel_rfl) (by kernel_rfl) (by rfl) (fun _ _ d _ _ h => by cases d <;> exact h) (st0) (hSq).out (by kernel_rfl) ?_
          intro Kq hKq
          go_big_quiet_op
          go_big_quiet_on
          refine Go.Pin.takeL 8 (by simp only [List.getElem?_toArray, List.getElem?_cons_zero, List.getElem?_cons_succ]; exact rfl) (by simp only [List.getElem?_toArray, List.getElem?_cons_zero, List.getElem?_cons_succ]; exact rfl) (by kernel_rfl) (by kernel_rfl) (by kernel_rfl) (by kernel_rfl) (by rfl) (fun _ _ d _ _ h => by cases d <;> exact h) (st0) (hSq).out (by kernel_rfl) ?_
          intro Kq hKq
          go_big_quiet_op
          go_big_quiet_on
          refine Go.Pin.takeL 9 (by simp only [List.getElem?_toArray, List.getElem?_cons_zero, List.getElem?_cons_succ]; exact rfl) (by simp only [List.getElem?_toArray, List.getElem?_cons_zero, List.getElem?_cons_succ]; exact rfl) (by kernel_rfl) (by kernel_rfl) (by kernel_rfl) (by kernel_rfl) (by rfl) (fun _ _ d _ _ h => by cases d <;> exact h) (st0) (hSq).out (by kernel_rfl) ?_
          intro Kq hKq
          go_big_quiet_op
          go_big_quiet_on
          refine Go.Pin.takeL 10 (by simp only [List.getElem?_toArray, List.getElem?_cons_zero, List.getElem?_cons_succ]; exact rfl) (by simp only [List.getElem?_toArray, List.getElem?_cons_zero, List.getElem?_cons_succ]; exact rfl) (by kernel_rfl) (by kernel_rfl) (by kernel_rfl) (by kernel_rfl) (by rfl) (fun _ _ d _ _ h => by cases d <;> exact h) (st0) (hSq).out (by kernel_rfl) ?_
          intro Kq hKq
          go_big_quiet_op
          go_big_quiet_on
          have hal := (Below.refl wd.heap.size wd).alloc (Nat.le_refl _) (.cells #[.int .i64 7] 3)
          have st1 : (wd.alloc (.cells #[.int .i64 7] 3)).cell? ⟨q, 3, none⟩ = some (.slice (some ⟨g, o, none⟩) mf yl) ∧ (wd.alloc (.cells #[.int .i64 7] 3)).cell? ⟨g, o + j * 2 + 1, none⟩ = some (.slice xt tC.length yt) := ⟨cell_below hal hd3, cell_below hal k1⟩
          have happ := own_app Tryz.underlying22 parts_int rfl (by decide) (owns_below hal HKO.out) (a := wd.heap.size) (news := [.int .i64 7]) (t' := 3) (fr := (0, 0)) (heap_alloc_new _ _) rfl (fun u hu => by simp at hu; subst hu; rfl) (by omega) (by omega) (by rw [size_alloc]; omega)
          refine Go.Pin.readyL 11 (by simp only [List.getElem?_toArray, List.getElem?_cons_zero, List.getElem?_cons_succ]; exact rfl) (by kernel_rfl) (by kernel_rfl) ?_
          intro K hK
          refine wpRun (d := some 43) (v := .slice (some ⟨wd.heap.size, 0, none⟩) 1 1) (w' := wd.alloc (.cells #[.int .i64 7] 3)) rfl (by unfold execOp; go_simp) (hK _ _ (.inr st1) ?_)
          simp only [Act.put, List.setIfInBounds_toArray, List.set_cons_zero, List.set_cons_succ]
          clear hK K
          refine Go.Pin.readyL 12 (by simp only [List.getElem?_toArray, List.getElem?_cons_zero, List.getElem?_cons_succ]; exact rfl) (by kernel_rfl) (by kernel_rfl) ?_
          intro K hK
          refine wpApp (d := some 44) (v := .slice xt tC.length yt) (u := .slice (some ⟨wd.heap.size, 0, none⟩) 1 1) (R := fun v' w' => w'.ownsRow (q + 2) 3 1 v' (tC.length + 1) (tC.map (Value.int .i64) ++ [.int .i64 7]) ∧ (wd.alloc (.cells #[.int .i64 7] 3)).grownBy w' (Value.slice xt tC.length yt).ownBlock ∧ (v'.ownBlock = (Value.slice xt tC.length yt).ownBlock ∨ v'.ownBlock = some (wd.alloc (.cells #[.int .i64 7] 3)).heap.size)) rfl rfl rfl rfl happ (fun v' w6 h6 => ?_)
          obtain ⟨an, cn, hv6⟩ := own_slice' h6.1
          have hv6' : v' = .slice an (tC ++ [7]).length cn := by rw [hv6, List.length_append]; rfl
          subst hv6'
          have hx6 : w6.ownsRow (q + 2) 3 1 (.slice an (tC ++ [7]).length cn) (tC ++ [7]).length ((tC ++ [7]).map (Value.int .i64)) := by
            have := h6.1
            have hl7 : (tC ++ [7]).length = tC.length + 1 := by simp
            rw [hl7] at this ⊢
            rw [List.map_append]
            exact this
          have hgr := grown_alloc h6.2.1
          have hrr : ∀ k, (Value.slice xt tC.length yt).ownBlock = some k → q + 2 ≤ k ∧ (k = wd.heap.size ∨ wd.heap.size < k ∨ (Value.slice xt tC.length yt).ownBlock = some k) := fun k hk => ⟨(HKO.out.lt k hk).1, .inr (.inr hk)⟩
          have hxb : (Value.slice an (tC ++ [7]).length cn).ownBlock = (Value.slice xt tC.length yt).ownBlock ∨ ∀ k, (Value.slice an (tC ++ [7]).length cn).ownBlock = some k → wd.heap.size ≤ k := by
            rcases h6.2.2 with e | e
            · exact .inl e
            · refine .inr (fun k hk => ?_)
              rw [hk, size_alloc] at e; injection e with e; omega
          have hfin := HPT.out w6 _ (.slice an (tC ++ [7]).length cn) ((tC ++ [7])) hgr hrr hx6 hxb
          have HF : Hid _ := hfin.1
          have HNW : Hid (wdsM p ws (i + 1) = some (⟨nm, b0, b1, lvl (gs.set j (f0, .slice an (tC ++ [7]).length cn, (tC ++ [7])))⟩, ((j : Int) + 1))) := by show _ = _; rw [HWU.out, HLS.out]
          have HBN : Hid (Bd (i + 1) b0 b1 (gs.set j (f0, .slice an (tC ++ [7]).length cn, (tC ++ [7]))) ((j : Int) + 1)) := by
            refine ⟨HBD.out.1, HBD.out.2.1, by rw [List.length_set]; exact HBD.out.2.2.1, fun f hf => ?_, by omega, by omega⟩
            rcases List.mem_or_eq_of_mem_set hf with hf | hf
            · have := HBD.out.2.2.2.1 f hf; exact ⟨this.1, by omega⟩
            · subst hf; exact ⟨HBM.out, by simp only [List.length_cons, List.length_append, List.length_nil]; omega⟩
          have hc6 := hfin.2.1
          have hz6 := hfin.2.2
          have hc36 := (HMS2.out.p2.grownO hgr (fun k hk => (hrr k hk).1)).c3
          have st6 : w6.cell? ⟨q, 3, none⟩ = some (.slice (some ⟨g, o, none⟩) mf yl) ∧ w6.cell? ⟨g, o + j * 2 + 1, none⟩ = some (.slice xt tC.length yt) := ⟨hc36, hc6⟩
          refine hK _ _ (.inr st6) ?_
          simp only [Act.put, List.setIfInBounds_toArray, List.set_cons_zero, List.set_cons_succ]
          clear hK K
          refine Go.Pin.readyL 13 (by simp only [List.getElem?_toArray, List.getElem?_cons_zero, List.getElem?_cons_succ]; exact rfl) (by kernel_rfl) (by kernel_rfl) ?_
          intro K hK
          refine wpRun (d := some 45) (v := .pointer (some ⟨g, o + j * 2, none⟩)) (w' := w6) rfl (by unfold execOp; go_simp) (hK _ _ (.inr st6) ?_)
          simp only [Act.put, List.setIfInBounds_toArray, List.set_cons_zero, List.set_cons_succ]
          clear hK K
          refine Go.Pin.takeL 14 (by simp only [List.getElem?_toArray, List.getElem?_cons_zero, List.getElem?_cons_succ]; exact rfl) (by simp only [List.getElem?_toArray, List.getElem?_cons_zero, List.getElem?_cons_succ]; exact rfl) (by kernel_rfl) (by kernel_rfl) (by kernel_rfl) (by kernel_rfl) (by rfl) (fun _ _ d _ _ h => by cases d <;> exact h) (st6) (hSq).out (by kernel_rfl) ?_
          intro Kq hKq
          go_big_quiet_op
          go_big_quiet_on
          refine Go.Pin.readyL 15 (by simp only [List.getElem?_toArray, List.getElem?_cons_zero, List.getElem?_cons_succ]; exact rfl) (by kernel_rfl) (by kernel_rfl) ?_
          intro K hK
          unfold Oper.wp execOp
          go_simp
          refine hK _ _ (.inl rfl) ?_
          clear hK K
          refine Go.Pin.wpL_done (by kernel_rfl) ?_
          simp only [List.length_append, List.length_cons, List.length_nil, Nat.zero_add] at HF HNW HBN
          obtain ⟨W7, hW7⟩ : ∃ W7, w6.setCell ⟨g, o + j * 2 + 1, none⟩ (.slice an (tC.length + 1) cn) = W7 := ⟨_, rfl⟩
          rw [hW7] at HF
          simp only [hW7]
          have HF7 : Hid _ := HF.out
          clear hW7 hfin h6 hx6 hgr hrr hxb hc6 hz6 hc36 st6 st1 st0 happ hal hSq hRq hNq y3 y4 hwd hd3 k0 k1 kf ko HF hv6 HPT
          go_wp2
          exact ⟨⟨i + 1, (j : Int) + 1, _, _, _, b0, b1, _, hlt, congrArg (Value.int .i64) (Int.natCast_succ i).symm, rfl, HNW.out, HF7.out, HBN.out⟩, by show n - ((i : Int) + 1).toNat < n - ((i : Int)).toNat; omega⟩
    · have b9 : ¬ (i : Int) < (n : Int) := by omega
      obtain rfl : i = n := by omega
      have hMD2 := HMD.out
      rw [hwd] at hMD2
      simp only at hMD2
      have HQ : Hid (mdf p ws = if chk ⟨nm, b0, b1, lvl gs⟩ ≠ 0 then (zPt, chk ⟨nm, b0, b1, lvl gs⟩) else (⟨nmN nm ws i, b0, b1, lvl gs⟩, 0)) := by show mdf p ws = _; rw [hMD2]
      have HSZ : Hid (∀ k, k < i → (ws.getD k ⟨#[]⟩).size ≤ 8) := wdsM_size i _ hwd
      have CKK := check_any _ _ wr (HMS.out.rd (by have := hbd.1; omega) (by have := hbd.2.1; omega) (by have := hbd.2.2.1; omega) (fun f hf => by have := (hbd.2.2.2.1 f hf).2; omega))
      have d0 := hms.p2.c0
      have d1 := hms.p2.c1
      have d2 := hms.p2.c2
      have d3 := hms.p2.c3
      obtain ⟨ck, hck⟩ : ∃ ck, chk ⟨nm, b0, b1, lvl gs⟩ = ck := ⟨_, rfl⟩
      rw [hck] at CKK HQ
      obtain ⟨qr, hqr⟩ : ∃ qr, wr.heap.size = qr := ⟨_, rfl⟩
      rw [hqr] at CKK
      clear hMD2 hwd hms hbd hm0 hm1 hmf hck
      by_cases hc0 : ck = 0
      case neg =>
        have HM : Hid (mdf p ws = (zPt, ck)) := by show mdf p ws = _; rw [HQ.out, if_pos hc0]
        have eck : (ck == 0) = false := by simpa using hc0
        clear hc0
        go_upto_region 24 with (go_at_call 36; refine CKK.mono ?_; rintro e w4 ⟨rfl, hb⟩; have HM4 : Hid (MS q W nm (.slice x0 m0 y0) (.slice x1 m1 y1) (.slice xl mf yl) b0 b1 gs w4) := HMS.out.below (by rw [hqr]; exact hb); clear hb CKK d0 d1 d2 d3)
        have r4 := HM4.out.p2.row2
        go_wp2_with (with_reducible refine at_list ?_; refine wpList_store_row rfl 26 (.tmp 4) (.tmp 108) rfl (q + 1) zPat rfl rfl 26 zPat r4 (ip4 _ _ _ _) rfl (by simp [zPat, Value.oneCell']) ?_)
        try simp only [Exit.inBlock, Exit.then]
        refine bodyPost_ret (v := .tuple #[.agg zPat, .int .i64 ck]) ?_ rfl ⟨below_setRow (HM4.out.p2.old) _ (by omega) _, .agg zPat, by rw [HM.out], by rw [HM.out]; exact rdp_zpt _⟩
        exact results_row_tmp (P := Tryz.prog) (fn := Tryz.f20) (p := 4) (u := 5) (ty := 26) rfl _ _ (q + 1) 26 _ (0, 0) _ _ rfl (setRow_heap _ _ _ _ 26 _ r4) Tryz.underlying26 rfl (ip4 _ _ _ _) rfl
      have HR : Hid (mdf p ws = (⟨nmN nm ws i, b0, b1, lvl gs⟩, 0)) := by show mdf p ws = _; rw [HQ.out, if_neg (fun h => h hc0)]
      subst hc0
      go_upto_region 25 with (go_at_call 36; refine CKK.mono ?_; rintro e w4 ⟨rfl, hb⟩; have HM4 : Hid (MS q W nm (.slice x0 m0 y0) (.slice x1 m1 y1) (.slice xl mf yl) b0 b1 gs w4) := HMS.out.below (by rw [hqr]; exact hb); clear hb CKK d0 d1 d2 d3)
      go_wp2
      go_loopw [12] (fun v12 wr => ∃ k : Nat, k ≤ i ∧ v12 = .int .i64 k ∧ MS q W (nmN nm ws k) (.slice x0 m0 y0) (.slice x1 m1 y1) (.slice xl mf yl) b0 b1 gs wr) (fun v _ => i - (intOf v).toNat)
      case atStart => exact ⟨0, Nat.zero_le _, rfl, HM4.out⟩
      case round =>
        obtain ⟨k, hk, rfl, hms⟩ := hrel
        have HMK : Hid (MS q W (nmN nm ws k) (.slice x0 m0 y0) (.slice x1 m1 y1) (.slice xl mf yl) b0 b1 gs wr) := hms
        have hsz := nmN_size nm ws k (fun j hj => HSZ.out j (by omega))
        by_cases hlt2 : k < i
        · have b8 : (k : Int) < (i : Int) := by omega
          obtain ⟨-, gw, ow, rfl, hcw⟩ := (HWS.out wr hms.p2.old).at hlt2
          have hxz := HSZ.out k hlt2
          have hu : nmN nm ws (k + 1) = (if k = 0 then nmN nm ws k else nmN nm ws k ++ ⟨#[43]⟩) ++ ws.getD k ⟨#[]⟩ := rfl
          have HCW : Hid (∀ Y, Below q W Y → Y.cell? ⟨gw, ow + k, none⟩ = some (.string (ws.getD k ⟨#[]⟩))) := fun Y hY => by
            obtain ⟨_, g', o', e, h⟩ := (HWS.out Y hY).at hlt2
            injection e with e
            injection e with e1 e2
            subst e1 e2
            exact h Y (Below.refl _ _)
          obtain ⟨x, hx⟩ : ∃ x, ws.getD k ⟨#[]⟩ = x := ⟨_, rfl⟩
          obtain ⟨s, hs⟩ : ∃ s, nmN nm ws k = s := ⟨_, rfl⟩
          rw [hx] at hxz hu HCW
          rw [hs] at hsz hu HMK
          have HU : Hid _ := hu
          have hsz2 : s.size ≤ 200000 := by omega
          have d0 := HMK.out.p2.c0
          have z0 := HMK.out.p2.fz 0
          clear hu hcw hms hx hs hsz
          by_cases hk0 : k = 0
          · rw [if_pos hk0] at HU
            have b7 : ¬ (0 : Int) < (k : Int) := by omega
            have hkk : (k : Int) ≤ 200 := by omega
            clear hk0
            go_upto_region 30 with fail
            have hdr := HMK.out.below (drew_below (Below.refl wr.heap.size wr))
            obtain ⟨wd, hwd⟩ : ∃ wd, wr.drew = wd := ⟨_, rfl⟩
            rw [hwd] at hdr
            have HD : Hid (MS q W s (.slice x0 m0 y0) (.slice x1 m1 y1) (.slice xl mf yl) b0 b1 gs wd) := hdr
            have hd0 := hdr.p2.c0
            have hdf := hdr.p2.fz 0
            have hdw := HCW.out wd hdr.p2.old
            refine Go.Pin.wp_region_L (fun Y => Y.cell? ⟨q, 0, none⟩ = some (.string s) ∧ Y.cell? ⟨gw, ow + k, none⟩ = some (.string x)) 8 9 (by rfl) (by kernel_rfl) (by rw [hwd]; exact ⟨hd0, hdw⟩) ?_
            intro Sq fq hNq hRq hSq
            have y3 := fun x => (hRq x).1
            have y4 := fun x => (hRq x).2
            rw [hwd]
            have st0 : wd.cell? ⟨q, 0, none⟩ = some (.string s) ∧ wd.cell? ⟨gw, ow + k, none⟩ = some (.string x) := ⟨hd0, hdw⟩
            clear hdr
            refine Go.Pin.takeL 0 (by simp only [List.getElem?_toArray, List.getElem?_cons_zero, List.getElem?_cons_succ]; exact rfl) (by simp only [List.getElem?_toArray, List.getElem?_cons_zero, List.getElem?_cons_succ]; exact rfl) (by kernel_rfl) (by kernel_rfl) (by kernel_rfl) (by kernel_rfl) (by rfl) (fun _ _ d _ _ h => by cases d <;> exact h) (st0) (hSq).out (by kernel_rfl) ?_
            intro Kq hKq
            go_big_quiet_op
            go_big_quiet_on
            refine Go.Pin.takeL 1 (by simp only [List.getElem?_toArray, List.getElem?_cons_zero, List.getElem?_cons_succ]; exact rfl) (by simp only [List.getElem?_toArray, List.getElem?_cons_zero, List.getElem?_cons_succ]; exact rfl) (by kernel_rfl) (by kernel_rfl) (by kernel_rfl) (by kernel_rfl) (by rfl) (fun _ _ d _ _ h => by cases d <;> exact h) (st0) (hSq).out (by kernel_rfl) ?_
            intro Kq hKq
            go_big_quiet_op
            go_big_quiet_on
            refine Go.Pin.takeL 2 (by simp only [List.getElem?_toArray, List.getElem?_cons_zero, List.getElem?_cons_succ]; exact rfl) (by simp only [List.getElem?_toArray, List.getElem?_cons_zero, List.getElem?_cons_succ]; exact rfl) (by kernel_rfl) (by kernel_rfl) (by kernel_rfl) (by kernel_rfl) (by rfl) (fun _ _ d _ _ h => by cases d <;> exact h) (st0) (hSq).out (by kernel_rfl) ?_
            intro Kq hKq
            go_big_quiet_op
            go_big_quiet_on
            refine Go.Pin.takeL 3 (by simp only [List.getElem?_toArray, List.getElem?_cons_zero, List.getElem?_cons_succ]; exact rfl) (by simp only [List.getElem?_toArray, List.getElem?_cons_zero, List.getElem?_cons_succ]; exact rfl) (by kernel_rfl) (by kernel_rfl) (by kernel_rfl) (by kernel_rfl) (by rfl) (fun _ _ d _ _ h => by cases d <;> exact h) (st0) (hSq).out (by kernel_rfl) ?_
            intro Kq hKq
            go_big_quiet_op
            go_big_quiet_on
            refine Go.Pin.takeL 4 (by simp only [List.getElem?_toArray, List.getElem?_cons_zero, List.getElem?_cons_succ]; exact rfl) (by simp only [List.getElem?_toArray, List.getElem?_cons_zero, List.getElem?_cons_succ]; exact rfl) (by kernel_rfl) (by kernel_rfl) (by kernel_rfl) (by kernel_rfl) (by rfl) (fun _ _ d _ _ h => by cases d <;> exact h) (st0) (hSq).out (by kernel_rfl) ?_
            intro Kq hKq
            go_big_quiet_op
            go_big_quiet_on
            refine Go.Pin.takeL 5 (by simp only [List.getElem?_toArray, List.getElem?_cons_zero, List.getElem?_cons_succ]; exact rfl) (by simp only [List.getElem?_toArray, List.getElem?_cons_zero, List.getElem?_cons_succ]; exact rfl) (by kernel_rfl) (by kernel_rfl) (by kernel_rfl) (by kernel_rfl) (by rfl) (fun _ _ d _ _ h => by cases d <;> exact h) (st0) (hSq).out (by kernel_rfl) ?_
            intro Kq hKq
            go_big_quiet_op
            go_big_quiet_on
            refine Go.Pin.takeL 6 (by simp only [List.getElem?_toArray, List.getElem?_cons_zero, List.getElem?_cons_succ]; exact rfl) (by simp only [List.getElem?_toArray, List.getElem?_cons_zero, List.getElem?_cons_succ]; exact rfl) (by kernel_rfl) (by kernel_rfl) (by kernel_rfl) (by kernel_rfl) (by rfl) (fun _ _ d _ _ h => by cases d <;> exact h) (st0) (hSq).out (by kernel_rfl) ?_
            intro Kq hKq
            go_big_quiet_op
            go_big_quiet_on
            refine Go.Pin.takeL 7 (by simp only [List.getElem?_toArray, List.getElem?_cons_zero, List.getElem?_cons_succ]; exact rfl) (by simp only [List.getElem?_toArray, List.getElem?_cons_zero, List.getElem?_cons_succ]; exact rfl) (by kernel_rfl) (by kernel_rfl) (by kernel_rfl) (by kernel_rfl) (by rfl) (fun _ _ d _ _ h => by cases d <;> exact h) (st0) (hSq).out (by kernel_rfl) ?_
            intro Kq hKq
            go_big_quiet_op
            go_big_quiet_on
            refine Go.Pin.readyL 8 (by simp only [List.getElem?_toArray, List.getElem?_cons_zero, List.getElem?_cons_succ]; exact rfl) (by kernel_rfl) (by kernel_rfl) ?_
            intro K hK
            unfold Oper.wp execOp
            go_simp
            refine hK _ _ (.inl rfl) ?_
            clear hK K
            refine Go.Pin.wpL_done (by kernel_rfl) ?_
            have hfin := HD.out.name (s ++ x)
            obtain ⟨W9, hW9⟩ : ∃ W9, wd.setCell ⟨q, 0, none⟩ (.string (s ++ x)) = W9 := ⟨_, rfl⟩
            rw [hW9] at hfin
            simp only [hW9]
            have HF : Hid (MS q W (s ++ x) (.slice x0 m0 y0) (.slice x1 m1 y1) (.slice xl mf yl) b0 b1 gs W9) := hfin
            clear hfin hW9 st0 hSq hRq hNq y3 y4 hwd hd0 hdf hdw
            go_wp2
            exact ⟨⟨k + 1, hlt2, congrArg (Value.int .i64) (Int.natCast_succ k).symm, by rw [HU.out]; exact HF.out⟩, by show i - ((k : Int) + 1).toNat < i - ((k : Int)).toNat; omega⟩
          · rw [if_neg hk0] at HU
            have b7 : (0 : Int) < (k : Int) := by omega
            have hkk : (k : Int) ≤ 200 := by omega
            clear hk0
            go_upto_region 30 with fail
            have hmn := HMK.out.name (s ++ ⟨#[43]⟩)
            obtain ⟨wq, hwq⟩ : ∃ wq, wr.setCell ⟨q, 0, none⟩ (.string (s ++ ⟨#[43]⟩)) = wq := ⟨_, rfl⟩
            rw [hwq] at hmn
            simp only [hwq]
            have hs43 : (s ++ ⟨#[43]⟩).size ≤ 200001 := by rw [ByteArray.size_append]; exact Nat.add_le_add hsz2 (Nat.le_refl 1)
            obtain ⟨s', hs'⟩ : ∃ s', s ++ (⟨#[43]⟩ : ByteArray) = s' := ⟨_, rfl⟩
            rw [hs'] at hmn hs43 HU
            simp only [hs']
            have HMK' : Hid (MS q W s' (.slice x0 m0 y0) (.slice x1 m1 y1) (.slice xl mf yl) b0 b1 gs wq) := hmn
            have hsz3 : s'.size ≤ 200001 := hs43
            clear hmn hwq hs43 hs' d0 z0
            have hdr := HMK'.out.below (drew_below (Below.refl wq.heap.size wq))
            obtain ⟨wd, hwd⟩ : ∃ wd, wq.drew = wd := ⟨_, rfl⟩
            rw [hwd] at hdr
            have HD : Hid (MS q W s' (.slice x0 m0 y0) (.slice x1 m1 y1) (.slice xl mf yl) b0 b1 gs wd) := hdr
            have hd0 := hdr.p2.c0
            have hdf := hdr.p2.fz 0
            have hdw := HCW.out wd hdr.p2.old
            refine Go.Pin.wp_region_L (fun Y => Y.cell? ⟨q, 0, none⟩ = some (.string s') ∧ Y.cell? ⟨gw, ow + k, none⟩ = some (.string x)) 8 9 (by rfl) (by kernel_rfl) (by rw [hwd]; exact ⟨hd0, hdw⟩) ?_
            intro Sq fq hNq hRq hSq
            have y3 := fun x => (hRq x).1
            have y4 := fun x => (hRq x).2
            rw [hwd]
            have st0 : wd.cell? ⟨q, 0, none⟩ = some (.string s') ∧ wd.cell? ⟨gw, ow + k, none⟩ = some (.string x) := ⟨hd0, hdw⟩
            clear hdr
            refine Go.Pin.takeL 0 (by simp only [List.getElem?_toArray, List.getElem?_cons_zero, List.getElem?_cons_succ]; exact rfl) (by simp only [List.getElem?_toArray, List.getElem?_cons_zero, List.getElem?_cons_succ]; exact rfl) (by kernel_rfl) (by kernel_rfl) (by kernel_rfl) (by kernel_rfl) (by rfl) (fun _ _ d _ _ h => by cases d <;> exact h) (st0) (hSq).out (by kernel_rfl) ?_
            intro Kq hKq
            go_big_quiet_op
            go_big_quiet_on
            refine Go.Pin.takeL 1 (by simp only [List.getElem?_toArray, List.getElem?_cons_zero, List.getElem?_cons_succ]; exact rfl) (by simp only [List.getElem?_toArray, List.getElem?_cons_zero, List.getElem?_cons_succ]; exact rfl) (by kernel_rfl) (by kernel_rfl) (by kernel_rfl) (by kernel_rfl) (by rfl) (fun _ _ d _ _ h => by cases d <;> exact h) (st0) (hSq).out (by kernel_rfl) ?_
            intro Kq hKq
            go_big_quiet_op
            go_big_quiet_on
            refine Go.Pin.takeL 2 (by simp only [List.getElem?_toArray, List.getElem?_cons_zero, List.getElem?_cons_succ]; exact rfl) (by simp only [List.getElem?_toArray, List.getElem?_cons_zero, List.getElem?_cons_succ]; exact rfl) (by kernel_rfl) (by kernel_rfl) (by kernel_rfl) (by kernel_rfl) (by rfl) (fun _ _ d _ _ h => by cases d <;> exact h) (st0) (hSq).out (by kernel_rfl) ?_
            intro Kq hKq
            go_big_quiet_op
            go_big_quiet_on
            refine Go.Pin.takeL 3 (by simp only [List.getElem?_toArray, List.getElem?_cons_zero, List.getElem?_cons_succ]; exact rfl) (by simp only [List.getElem?_toArray, List.getElem?_cons_zero, List.getElem?_cons_succ]; exact rfl) (by kernel_rfl) (by kernel_rfl) (by kernel_rfl) (by kernel_rfl) (by rfl) (fun _ _ d _ _ h => by cases d <;> exact h) (st0) (hSq).out (by kernel_rfl) ?_
            intro Kq hKq
            go_big_quiet_op
            go_big_quiet_on
            refine Go.Pin.takeL 4 (by simp only [List.getElem?_toArray, List.getElem?_cons_zero, List.getElem?_cons_succ]; exact rfl) (by simp only [List.getElem?_toArray, List.getElem?_cons_zero, List.getElem?_cons_succ]; exact rfl) (by kernel_rfl) (by kernel_rfl) (by kernel_rfl) (by kernel_rfl) (by rfl) (fun _ _ d _ _ h => by cases d <;> exact h) (st0) (hSq).out (by kernel_rfl) ?_
            intro Kq hKq
            go_big_quiet_op
            go_big_quiet_on
            refine Go.Pin.takeL 5 (by simp only [List.getElem?_toArray, List.getElem?_cons_zero, List.getElem?_cons_succ]; exact rfl) (by simp only [List.getElem?_toArray, List.getElem?_cons_zero, List.getElem?_cons_succ]; exact rfl) (by kernel_rfl) (by kernel_rfl) (by kernel_rfl) (by kernel_rfl) (by rfl) (fun _ _ d _ _ h => by cases d <;> exact h) (st0) (hSq).out (by kernel_rfl) ?_
            intro Kq hKq
            go_big_quiet_op
            go_big_quiet_on
            refine Go.Pin.takeL 6 (by simp only [List.getElem?_toArray, List.getElem?_cons_zero, List.getElem?_cons_succ]; exact rfl) (by simp only [List.getElem?_toArray, List.getElem?_cons_zero, List.getElem?_cons_succ]; exact rfl) (by kernel_rfl) (by kernel_rfl) (by kernel_rfl) (by kernel_rfl) (by rfl) (fun _ _ d _ _ h => by cases d <;> exact h) (st0) (hSq).out (by kernel_rfl) ?_
            intro Kq hKq
            go_big_quiet_op
            go_big_quiet_on
            refine Go.Pin.takeL 7 (by simp only [List.getElem?_toArray, List.getElem?_cons_zero, List.getElem?_cons_succ]; exact rfl) (by simp only [List.getElem?_toArray, List.getElem?_cons_zero, List.getElem?_cons_succ]; exact rfl) (by kernel_rfl) (by kernel_rfl) (by kernel_rfl) (by kernel_rfl) (by rfl) (fun _ _ d _ _ h => by cases d <;> exact h) (st0) (hSq).out (by kernel_rfl) ?_
            intro Kq hKq
            go_big_quiet_op
            go_big_quiet_on
            refine Go.Pin.readyL 8 (by simp only [List.getElem?_toArray, List.getElem?_cons_zero, List.getElem?_cons_succ]; exact rfl) (by kernel_rfl) (by kernel_rfl) ?_
            intro K hK
            unfold Oper.wp execOp
            go_simp
            refine hK _ _ (.inl rfl) ?_
            clear hK K
            refine Go.Pin.wpL_done (by kernel_rfl) ?_
            have hfin := HD.out.name (s' ++ x)
            obtain ⟨W9, hW9⟩ : ∃ W9, wd.setCell ⟨q, 0, none⟩ (.string (s' ++ x)) = W9 := ⟨_, rfl⟩
            rw [hW9] at hfin
            simp only [hW9]
            have HF : Hid (MS q W (s' ++ x) (.slice x0 m0 y0) (.slice x1 m1 y1) (.slice xl mf yl) b0 b1 gs W9) := hfin
            clear hfin hW9 st0 hSq hRq hNq y3 y4 hwd hd0 hdf hdw
            go_wp2
            exact ⟨⟨k + 1, hlt2, congrArg (Value.int .i64) (Int.natCast_succ k).symm, by rw [HU.out]; exact HF.out⟩, by show i - ((k : Int) + 1).toNat < i - ((k : Int)).toNat; omega⟩
        · have b8 : ¬ (k : Int) < (i : Int) := by omega
          obtain rfl : k = i := by omega
          obtain ⟨s, hs⟩ : ∃ s, nmN nm ws k = s := ⟨_, rfl⟩
          rw [hs] at HMK HR
          have e0 := HMK.out.p2.c0
          have e1 := HMK.out.p2.c1
          have e2 := HMK.out.p2.c2
          have e3 := HMK.out.p2.c3
          have r9 := HMK.out.p2.row2
          clear hms hsz hs
          go_wp2_with (with_reducible refine at_list ?_; refine wpList_store_row rfl 26 (.tmp 4) (.tmp 130) rfl (q + 1) #[.string s, .slice x0 m0 y0, .slice x1 m1 y1, .slice xl mf yl] rfl rfl 26 zPat r9 (ip4 _ _ _ _) rfl (by simp [Value.oneCell']) ?_)
          try simp only [Exit.inBlock, Exit.then]
          have hexf := ex_keep (w' := wr.setRow (q + 1) #[.string s, .slice x0 m0 y0, .slice x1 m1 y1, .slice xl mf yl]) (hd := [(0, .slice x0 m0 y0, b0), (1, .slice x1 m1 y1, b1)]) HMK.out.ex (fun b hb => setRow_other _ _ _ _ (by omega))
          refine bodyPost_ret (v := .tuple #[.agg #[.string s, .slice x0 m0 y0, .slice x1 m1 y1, .slice xl mf yl], .int .i64 0]) ?_ rfl ⟨below_setRow HMK.out.p2.old _ (by omega) _, .agg #[.string s, .slice x0 m0 y0, .slice x1 m1 y1, .slice xl mf yl], by rw [HR.out], ?_⟩
          · exact results_row_tmp (P := Tryz.prog) (fn := Tryz.f20) (p := 4) (u := 5) (ty := 26) rfl _ _ (q + 1) 26 _ (0, 0) _ _ rfl (setRow_heap _ _ _ _ 26 _ r9) Tryz.underlying26 rfl (ip4 _ _ _ _) rfl
          · rw [HR.out]
            exact ex_rd hexf (by have := HBD.out.1; omega) (by have := HBD.out.2.1; omega) (by have := HBD.out.2.2.1; omega) (fun f hf => by have := (HBD.out.2.2.2.1 f hf).2; omega)
end Go.Proofs.YtchnkpgkckadmaaGreatDoor
