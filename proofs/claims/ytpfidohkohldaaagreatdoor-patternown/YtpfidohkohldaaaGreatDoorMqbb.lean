import Derived.Test.YtpfidohkohldaaaGreatDoorMqba
namespace Go.Proofs.YtpfidohkohldaaaGreatDoor
set_option linter.unusedSimpArgs false
set_option linter.unusedVariables false
open Go.ChangeShapes Go.WideShapes Go.ChangeAt Go.RowKit Go.Pin Go.Pat Go.Deep
theorem OA.set1 {e : TypeId} {k g o n cap : Nat} {xs : List Value} {w : World} (h : OA e k (.slice (some ⟨g, o, none⟩) n cap) n xs w) (j : Nat) (v : Value) : OA e k (.slice (some ⟨g, o, none⟩) n cap) n (xs.set j v) (w.setCell ⟨g, o + j, none⟩ v) := by
  refine ⟨by rw [List.length_set]; exact h.1, ?_⟩
  rcases h.2 with ⟨h1, _⟩ | ⟨g', o', cap', cur, h1, h2, h3, h4, h5⟩
  · cases h1
  · injection h1 with e1 e2 e3
    injection e1 with e1
    injection e1 with e1 e4
    subst e1 e4 e3
    refine .inr ⟨g, o, cap, cur.setIfInBounds (o + j) v, rfl, heap_setCell_same w _ _ _ _ _ h2, h3, by rw [Array.size_setIfInBounds]; exact h4, ?_⟩
    rw [Array.toList_setIfInBounds, List.drop_set, if_neg (by omega), List.take_set, h5, show o + j - o = j by omega]
theorem lvc_set (lf : List Lv) : ∀ (i : Nat) (x : Int), i < lf.length → lvc (lf.set i (x, (lf.getD i dLv).2)) = (lvc lf).set (i * 2) (.int .i64 x) := by
  induction lf with
  | nil => intro i x h; simp at h
  | cons g r ih =>
    intro i x h
    have e : ∀ (y : Lv) (s : List Lv), lvc (y :: s) = .int .i64 y.1 :: y.2.1 :: lvc s := fun y s => by simp [lvc]
    cases i with
    | zero => simp [e]
    | succ i =>
      have := ih i x (by simpa using h)
      rw [List.set_cons_succ, e, e, show (i + 1) * 2 = i * 2 + 1 + 1 by omega, List.set_cons_succ, List.set_cons_succ, ← this]
      simp [List.getD]
/-- the lines, j of them from mk -/
def FL (mk : Int) (fs : List Lv) (j : Nat) : List Lv := (fs.take j).map (fun f => (mk, f.2)) ++ fs.drop j
theorem FL_len (mk : Int) (fs : List Lv) (j : Nat) : (FL mk fs j).length = fs.length := by simp [FL]; omega
theorem FL_set {mk : Int} {fs : List Lv} {j : Nat} (h : j < fs.length) : (FL mk fs j).set j (mk, ((FL mk fs j).getD j dLv).2) = FL mk fs (j + 1) := by
  have e : (FL mk fs j).getD j dLv = fs[j] := by
    unfold FL
    rw [List.getD_eq_getElem?_getD, List.getElem?_append_right (by simp; omega), List.drop_eq_getElem_cons h]
    simp [Nat.min_eq_left (Nat.le_of_lt h), h]
  rw [e]
  have hl : ((fs.take j).map (fun f => (mk, f.2))).length = j := by simp; omega
  unfold FL
  rw [List.set_append_right _ _ (by omega), hl, Nat.sub_self, List.drop_eq_getElem_cons h, List.set_cons_zero, List.take_add_one, List.getElem?_eq_getElem h, List.map_append]
  simp
section
variable {q base hi : Nat} {w0 wr : World} {nm : ByteArray} {v0 v1 vl u : Value} {lf G : List Lv}
theorem FS.line {g o L cap : Nat} (h : FS q base hi w0 nm v0 v1 (.slice (some ⟨g, o, none⟩) L cap) u lf G wr) {i : Nat} {mk : Int} (hL : lf.length = L) (hi' : i < L) :
    FS q base hi w0 nm v0 v1 (.slice (some ⟨g, o, none⟩) L cap) u (lf.set i (mk, (lf.getD i dLv).2)) G (wr.setCell ⟨g, o + i * 2, none⟩ (.int .i64 mk)) := by
  subst hL
  have hg := h.hl g rfl
  have hq := h.hq
  have ho : ∀ b, b ≠ g → (wr.setCell ⟨g, o + i * 2, none⟩ (.int .i64 mk)).heap[b]? = wr.heap[b]? := fun b hne => heap_setCell_other _ _ _ _ hne
  have hvl : ∀ b ∈ obs G, b ≠ g := fun b hb e => by
    have := (List.nodup_append.1 h.os.nd).2.2 g (by simp [Value.ownBlock]) b hb
    exact this e.symm
  refine ⟨(ho _ (by omega)).trans h.bx, h.bl.setCell (p := ⟨g, o + i * 2, none⟩) hg.1 _, fun b hb hbq => (ho b (by omega)).trans (h.kp b hb hbq), own_keep h.ro (fun b hb => ho b (by have := (h.ro.lt b hb).1; omega)), h.os.keep (fun b hb => ho b (hvl b hb)), ?_, h.hh, h.hl, h.hq⟩
  rw [List.length_set, lvc_set _ _ _ hi']
  exact h.ln.set1 _ _
end
/-- a pattern whose blocks lie from lo up to hi -/
def OwI (lo hi : Nat) (v0 v1 vl : Value) (p : Pt) (fs : List Lv) (w : World) : Prop :=
  OwQ lo v0 v1 vl p fs w ∧ (∀ k ∈ obs (als v0 v1 p fs), k < hi) ∧ (∀ g, vl.ownBlock = some g → g < hi) ∧ lo ≤ hi ∧ hi ≤ w.heap.size
/-- nothing but blocks from lo up to hi has changed -/
def Ch (lo hi : Nat) (w w' : World) : Prop := Below lo w w' ∧ ∀ k, hi ≤ k → k < w.heap.size → w'.heap[k]? = w.heap[k]?
theorem OwI.keep {lo hi : Nat} {v0 v1 vl : Value} {p : Pt} {fs : List Lv} {w w' : World} (h : OwI lo hi v0 v1 vl p fs w) (hk : ∀ k, lo ≤ k → k < hi → w'.heap[k]? = w.heap[k]?) (hz : w.heap.size ≤ w'.heap.size) : OwI lo hi v0 v1 vl p fs w' := by
  obtain ⟨⟨h1, h2, h3, h4⟩, h5, h6, h7, h8⟩ := h
  exact ⟨⟨h1, h2.keep (fun g hg => hk g (h3 g hg) (h6 g hg)), h3, h4.keep (fun k hk' => hk k (h4.lt k hk').1 (h5 k hk'))⟩, h5, h6, h7, by omega⟩
theorem OwI.below {lo hi : Nat} {v0 v1 vl : Value} {p : Pt} {fs : List Lv} {w w' : World} (h : OwI lo hi v0 v1 vl p fs w) (hb : Below w.heap.size w w') : OwI lo hi v0 v1 vl p fs w' :=
  h.keep (fun k _ hk => hb.block k (by have := h.2.2.2.2; omega)) hb.size
theorem OwI.ofP {lo : Nat} {v0 v1 vl : Value} {p : Pt} {fs : List Lv} {w : World} (h : OwQ lo v0 v1 vl p fs w) (hl : lo ≤ w.heap.size) : OwI lo w.heap.size v0 v1 vl p fs w :=
  ⟨h, fun k hk => (h.2.2.2.lt k hk).2, fun g hg => h.2.1.lt hg, hl, Nat.le_refl _⟩
/-- what fill leaves -/
def filF (mk : Int) (fs : List Lv) : List Lv := (List.range fs.length).map fun t => (mk, (filL mk (t + 2) (fs.getD t dLv)).2)
def filP (mk : Int) (p : Pt) (fs : List Lv) : Pt := ⟨p.nm, List.replicate p.b0.length (mk + ((0 : Nat) : Int)), List.replicate p.b1.length (mk + ((1 : Nat) : Int)), lvl (filF mk fs)⟩
theorem filF_len (mk : Int) (fs : List Lv) : (filF mk fs).length = fs.length := by simp [filF]
theorem GF_als (mk : Int) (v0 v1 : Value) (p : Pt) (fs : List Lv) : (GF mk (als v0 v1 p fs) (fs.length + 2)).map (·.2) = (als v0 v1 (filP mk p fs) (filF mk fs)).map (·.2) := by
  unfold GF als filF filP
  rw [List.range_succ_eq_map, List.range_succ_eq_map]
  simp [filL, Function.comp_def, filF]
  intro a _
  exact .inr (by omega)
theorem OS.snd {base : Nat} {pre : List Nat} {F G : List Lv} {w : World} (e : F.map (·.2) = G.map (·.2)) (h : OS base pre F w) : OS base pre G w := by
  have ho : ∀ H : List Lv, obs H = (H.map (·.2)).filterMap fun x => x.1.ownBlock := fun H => by rw [List.filterMap_map]; rfl
  refine ⟨fun f hf => ?_, by rw [ho, ← e, ← ho]; exact h.nd⟩
  have h1 : f.2 ∈ F.map (·.2) := by rw [e]; exact List.mem_map.2 ⟨f, hf, rfl⟩
  obtain ⟨f', hf', e'⟩ := List.mem_map.1 h1
  rw [← e']
  exact h.own f' hf'
theorem obs_snd {F G : List Lv} (e : F.map (·.2) = G.map (·.2)) : obs F = obs G := by
  have ho : ∀ H : List Lv, obs H = (H.map (·.2)).filterMap fun x => x.1.ownBlock := fun H => by rw [List.filterMap_map]; rfl
  rw [ho, e, ← ho]
theorem lvc_fil (mk : Int) (fs : List Lv) : lvc (FL mk fs fs.length) = lvc (filF mk fs) := by
  have hm : ∀ H : List Lv, lvc H = (H.map fun f => (f.1, f.2.1)).flatMap fun g => [Value.int .i64 g.1, g.2] := fun H => by rw [List.flatMap_map]; rfl
  rw [hm, hm]
  congr 1
  unfold FL filF
  rw [List.take_length, List.drop_length, List.append_nil]
  apply List.ext_getElem
  · simp
  · intro j h1 h2
    simp at h1
    simp [filL, List.getD, h1]
set_option maxRecDepth 100000 in
set_option maxHeartbeats 8000000 in
theorem fill_any {w : World} {base hi : Nat} {v0 v1 vl : Value} {p : Pt} {fs : List Lv} {mk : Int} (hI : OwI base hi v0 v1 vl p fs w) (hn : fs.length ≤ 2000) (hb : ∀ f ∈ als v0 v1 p fs, f.2.2.length ≤ 140737488355328) (hm : 0 ≤ mk ∧ mk ≤ 1000000) :
    Calls Tryz.prog 9 #[.agg #[.string p.nm, v0, v1, vl], .int .i64 mk] w fun e w' => e = .returned (.tuple #[]) ∧ OwI base hi v0 v1 vl (filP mk p fs) (filF mk fs) w' ∧ Ch base hi w w' := by
  obtain ⟨h, hh, hvl, hz⟩ := hI
  replace hz := And.intro hz.2 hz.1
  have CLs := fun Y (hY : Below w.heap.size w Y) => lists_any (h.below hY) hn
  obtain ⟨⟨a0, c0, rfl⟩, ⟨a1, c1, rfl⟩, ⟨al, cl, rfl⟩, hfs⟩ := h.sl
  have hst := pb_start w p.nm (.slice a0 p.b0.length c0) (.slice a1 p.b1.length c1) (.slice al fs.length cl)
  have hO := h
  obtain ⟨G, hG⟩ : ∃ G, als (.slice a0 p.b0.length c0) (.slice a1 p.b1.length c1) p fs = G := ⟨_, rfl⟩
  have hGl : G.length = fs.length + 2 := by rw [← hG]; simp [als]
  rw [hG] at hh hb
  have hsl : ∀ f ∈ G, ∃ a c, f.2.1 = .slice a f.2.2.length c := fun f hf => by
    rw [← hG] at hf
    exact own_slice' (h.2.2.2.own f hf)
  obtain ⟨q, hq⟩ : ∃ q, w.heap.size = q := ⟨_, rfl⟩
  obtain ⟨n0, hn0⟩ : ∃ n0, p.b0.length = n0 := ⟨_, rfl⟩
  obtain ⟨n1, hn1⟩ : ∃ n1, p.b1.length = n1 := ⟨_, rfl⟩
  obtain ⟨L, hL⟩ : ∃ L, fs.length = L := ⟨_, rfl⟩
  obtain ⟨nm, hnm⟩ : ∃ nm, p.nm = nm := ⟨_, rfl⟩
  simp only [hq, hn0, hn1, hL, hnm] at hst CLs hn hz hO hvl hGl hG ⊢
  rw [hG] at CLs
  obtain ⟨W1, hW1⟩ : ∃ W1, w.alloc (.cells #[.string nm, .slice a0 n0 c0, .slice a1 n1 c1, .slice al L cl] 26) = W1 := ⟨_, rfl⟩
  rw [hW1] at hst
  have HP : Hid (PB q w nm (.slice a0 n0 c0) (.slice a1 n1 c1) (.slice al L cl) W1) := hst
  have HO : Hid (∀ Y, Below q w Y → OwQ base (.slice a0 n0 c0) (.slice a1 n1 c1) (.slice al L cl) p fs Y) := fun Y hY => hO.below (by rw [hq]; exact hY)
  have HG : Hid (als (.slice a0 n0 c0) (.slice a1 n1 c1) p fs = G ∧ G.length = L + 2 ∧ L ≤ 2000 ∧ fs.length = L) := ⟨hG, hGl, hn, hL⟩
  have HH : Hid ((∀ k ∈ obs G, k < hi) ∧ (∀ g, (Value.slice al L cl).ownBlock = some g → g < hi) ∧ hi ≤ q ∧ base ≤ hi) := ⟨hh, hvl, hz⟩
  have HBD : Hid (∀ f ∈ G, f.2.2.length ≤ 140737488355328) := hb
  have HSL : Hid (∀ f ∈ G, ∃ a c, f.2.1 = .slice a f.2.2.length c) := hsl
  have HMK : Hid (0 ≤ mk ∧ mk ≤ 1000000) := hm
  have CL1 := CLs W1 hst.old
  have k0 := hst.c0
  have k1 := hst.c1
  have k2 := hst.c2
  have k3 := hst.c3
  clear hst CLs hO hG hGl hh hvl hz hn hb hm hfs hsl h
  go_enter Tryz.func9, Tryz.ntmps9
  go_upto_region 3 with (go_at_call 21; refine Calls.mono CL1 ?_; clear CL1; rintro e w2 ⟨u, rfl, ho, hb⟩; have HP2 : Hid (PB q w nm (.slice a0 n0 c0) (.slice a1 n1 c1) (.slice al L cl) w2) := HP.out.below hb; have HO2 : Hid (w2.ownsRow W1.heap.size 22 1 u (L + 2) (G.map (·.2.1))) := ho; clear ho hb k0 k1 k2 k3)
  obtain ⟨au, cu, rfl⟩ := own_slice' HO2.out
  obtain ⟨N, hN⟩ : ∃ N, L + 2 = N := ⟨_, rfl⟩
  have HN : Hid (G.length = N ∧ N ≤ 2002) := ⟨by rw [HG.out.2.1, hN], by have := HG.out; omega⟩
  have HF2 : Hid (FS q base hi w nm (.slice a0 n0 c0) (.slice a1 n1 c1) (.slice al L cl) (.slice au N cu) fs (GF mk G 0 ++ G.drop 0) w2) := by
    have hO2 := HO.out w2 HP2.out.old
    obtain ⟨o1, o2, o3, o4⟩ := hO2
    rw [HG.out.1] at o4
    have hr := HO2.out
    rw [hN] at hr
    refine ⟨HP2.out.row, HP2.out.old.mono (by have := HH.out; omega), fun k hk hkq => HP2.out.old.block k hkq, ?_, o4, o2, HH.out.1, fun g hg => ⟨o3 g hg, HH.out.2.1 g hg⟩, HH.out.2.2⟩
    show w2.ownsRow q _ 1 _ (G.drop 0).length ((G.drop 0).map _)
    rw [List.drop_zero, HN.out.1]
    exact own_dn hr (Nat.le_of_lt HP.out.lt)
  simp only [hN]
  clear hN HP2 HO2
  go_loopw [5] (fun v5 wr => ∃ i : Nat, i ≤ N ∧ v5 = .int .i64 i ∧ FS q base hi w nm (.slice a0 n0 c0) (.slice a1 n1 c1) (.slice al L cl) (.slice au N cu) fs (GF mk G i ++ G.drop i) wr) (fun v _ => N - (intOf v).toNat)
  case atStart => exact ⟨0, Nat.zero_le _, rfl, HF2.out⟩
  case round =>
    clear HF2
    obtain ⟨i, hi', rfl, hf⟩ := hrel
    have HFi : Hid (FS q base hi w nm (.slice a0 n0 c0) (.slice a1 n1 c1) (.slice al L cl) (.slice au N cu) fs (GF mk G i ++ G.drop i) wr) := hf
    by_cases hlt : i < N
    · have b1 : (i : Int) < (N : Int) := by omega
      have bi : (0 : Int) ≤ (i : Int) := by omega
      have hil : i < G.length := by rw [HN.out.1]; exact hlt
      have hdr : G.drop i = G.getD i dLv :: G.drop (i + 1) := by rw [List.drop_eq_getElem_cons hil]; simp [List.getD, hil]
      obtain ⟨ax, cx, hx⟩ := HSL.out (G.getD i dLv) (by simp [List.getD, hil])
      have hbd := HBD.out (G.getD i dLv) (by simp [List.getD, hil])
      rcases hfx : G.getD i dLv with ⟨ff, fv, C⟩
      rw [hfx] at hx hbd hdr
      simp only at hx hbd
      subst hx
      rw [hdr] at HFi
      have HC : Hid (G.getD i dLv = (ff, .slice ax C.length cx, C) ∧ i < N ∧ C.length ≤ 140737488355328) := ⟨hfx, hlt, hbd⟩
      obtain ⟨m, hm⟩ : ∃ m, C.length = m := ⟨_, rfl⟩
      obtain ⟨x, hx⟩ : ∃ x, mk + (i : Int) = x := ⟨_, rfl⟩
      have hwx : wrap64 (mk + (i : Int)) = x := by rw [← hx]; exact IntWalk.wrap64_in _ ⟨by have := HMK.out; omega, by have := HMK.out; have := HN.out; omega⟩
      have HX : Hid (mk + (i : Int) = x ∧ C.length = m) := ⟨hx, hm⟩
      clear hf hi' hlt hil hdr hbd hfx hx hm
      go_upto_region 6 with (fail)
      go_loopw [6] (fun v6 wy => ∃ k : Nat, k ≤ m ∧ v6 = .int .i64 k ∧ FS q base hi w nm (.slice a0 n0 c0) (.slice a1 n1 c1) (.slice al L cl) (.slice au N cu) fs (GF mk G i ++ (ff, .slice ax m cx, List.replicate k x ++ C.drop k) :: G.drop (i + 1)) wy) (fun v _ => m - (intOf v).toNat)
      case atStart => exact ⟨0, Nat.zero_le _, rfl, by have h := HFi.out; rw [HX.out.2] at h; exact h⟩
      case round =>
        obtain ⟨k, hk, rfl, hf⟩ := hrel
        have HFk : Hid (FS q base hi w nm (.slice a0 n0 c0) (.slice a1 n1 c1) (.slice al L cl) (.slice au N cu) fs (GF mk G i ++ (ff, .slice ax m cx, List.replicate k x ++ C.drop k) :: G.drop (i + 1)) wr) := hf
        have hgi : (GF mk G i ++ (ff, Value.slice ax m cx, List.replicate k x ++ C.drop k) :: G.drop (i + 1))[i]? = some (ff, .slice ax m cx, List.replicate k x ++ C.drop k) := by
          rw [List.getElem?_append_right (by rw [GF_len]; exact Nat.le_refl _), GF_len, Nat.sub_self]; rfl
        obtain ⟨-, gu, rfl, x1⟩ := hf.at hgi
        by_cases hkm : k < m
        · have b3 : (k : Int) < (m : Int) := by omega
          have b4 : (0 : Int) ≤ (k : Int) := by omega
          have hlen : (List.replicate k x ++ C.drop k).length = m := by have := HX.out.2; simp; omega
          have hown := hf.os.own (ff, .slice ax m cx, List.replicate k x ++ C.drop k) (by simp)
          simp only [hlen] at hown
          obtain ⟨gx, rfl, -, y1⟩ := (own_cell hown).2 k (.int .i64 ((List.replicate k x ++ C.drop k).getD k 0)) (by simp [List.getD, List.getElem?_append, show k < C.length by have := HX.out.2; omega])
          have f1 := hown.frozenAt k
          have hpt : FS q base hi w nm (.slice a0 n0 c0) (.slice a1 n1 c1) (.slice al L cl) (.slice (some ⟨gu, 0, none⟩) N cu) fs (GF mk G i ++ (ff, .slice (some ⟨gx, 0, none⟩) m cx, List.replicate (k + 1) x ++ C.drop (k + 1)) :: G.drop (i + 1)) (wr.setCell ⟨gx, k, none⟩ (.int .i64 x)) := by
            have h0 := hf
            rw [← hlen] at h0
            have h1 := h0.put k x
            rw [fil_set (by have := HX.out.2; omega), hlen] at h1
            exact h1
          have HPT : Hid _ := hpt
          have HK : Hid (k < m ∧ m ≤ 140737488355328) := ⟨hkm, by have := HC.out.2.2; have := HX.out.2; omega⟩
          clear hf hk hkm hlen hown hpt hgi
          go_wp2
          exact ⟨⟨k + 1, HK.out.1, congrArg (Value.int .i64) (wrapS HK.out.1 HK.out.2), HPT.out⟩, measS HK.out.1 HK.out.2⟩
        · obtain rfl : k = m := by omega
          have b3 : ¬ (k : Int) < (k : Int) := by omega
          clear hf hk hkm hgi
          go_wp2
          refine ⟨⟨i + 1, HC.out.2.1, congrArg (Value.int .i64) (wrapS HC.out.2.1 (by have := HN.out; omega)), ?_⟩, measS HC.out.2.1 (by have := HN.out; omega)⟩
          have h := HFk.out
          rw [GF_succ, HC.out.1, List.append_assoc]
          have e : filL mk i (ff, .slice ax C.length cx, C) = (ff, .slice ax k cx, List.replicate k x ++ C.drop k) := by
            unfold filL
            rw [HX.out.1, HX.out.2, List.drop_of_length_le (by have := HX.out.2; omega), List.append_nil]
          rw [e]
          exact h
    · obtain rfl : i = N := by omega
      have b1 : ¬ (i : Int) < (i : Int) := by omega
      clear hf hi' hlt
      go_upto_region 10 with (fail)
      go_loopw [7] (fun v7 wr => ∃ j : Nat, j ≤ L ∧ v7 = .int .i64 j ∧ FS q base hi w nm (.slice a0 n0 c0) (.slice a1 n1 c1) (.slice al L cl) (.slice au i cu) (FL mk fs j) (GF mk G i ++ G.drop i) wr) (fun v _ => L - (intOf v).toNat)
      case atStart => exact ⟨0, Nat.zero_le _, rfl, HFi.out⟩
      case round =>
        obtain ⟨j, hj, rfl, hf⟩ := hrel
        have HFj : Hid (FS q base hi w nm (.slice a0 n0 c0) (.slice a1 n1 c1) (.slice al L cl) (.slice au i cu) (FL mk fs j) (GF mk G i ++ G.drop i) wr) := hf
        have k3 := cell_of_row _ _ 3 _ _ _ hf.bx
        simp at k3
        by_cases hjl : j < L
        · have b3 : (j : Int) < (L : Int) := by omega
          have b4 : (0 : Int) ≤ (j : Int) := by omega
          have hjf : j < fs.length := by rw [HG.out.2.2.2]; exact hjl
          have hfl : (FL mk fs j).length = L := by rw [FL_len]; exact HG.out.2.2.2
          obtain ⟨e0, g, o, rfl, x1, f1⟩ := hf.ln.cell (j := j * 2) (lvq_get _ j (by rw [hfl]; exact hjl)).1
          have hpt := HFj.out.line (i := j) (mk := mk) hfl (by omega)
          rw [FL_set (by omega)] at hpt
          have HPT : Hid (FS q base hi w nm (.slice a0 n0 c0) (.slice a1 n1 c1) (.slice (some ⟨g, o, none⟩) L cl) (.slice au i cu) (FL mk fs (j + 1)) (GF mk G i ++ G.drop i) (wr.setCell ⟨g, o + j * 2, none⟩ (.int .i64 mk))) := hpt
          have HK : Hid (j < L) := hjl
          clear hf hj hjl hjf hfl e0 hpt
          go_wp2
          exact ⟨⟨j + 1, HK.out, congrArg (Value.int .i64) (wrapS HK.out (by have := HG.out; omega)), HPT.out⟩, measS HK.out (by have := HG.out; omega)⟩
        · obtain rfl : j = L := by omega
          have b3 : ¬ (j : Int) < (j : Int) := by omega
          clear hf hj hjl
          go_wp2
          go_end0
          refine ⟨rfl, ?_⟩
          have h := HFj.out
          have hL := HG.out.2.2.2
          have hN := HN.out.1
          have hGl := HG.out.2.1
          have hGa := HG.out.1
          rw [List.drop_of_length_le (by omega), List.append_nil, show i = fs.length + 2 by omega, ← hGa] at h
          have e := GF_als mk (.slice a0 n0 c0) (.slice a1 n1 c1) p fs
          have hz := h.hq
          have hbs : q < wr.heap.size := (Array.getElem?_eq_some_iff.1 h.bx).1
          refine ⟨⟨⟨rfl, ?_, fun g hg => (h.hl g hg).1, h.os.snd e⟩, fun k hk => h.hh k (by rw [obs_snd e]; exact hk), fun g hg => (h.hl g hg).2, hz.2, by omega⟩, h.bl, fun k hk hk' => h.kp k hk (by omega)⟩
          have hl := h.ln
          have e2 : lvc (FL mk fs j) = lvc (filF mk fs) := by rw [← hL]; exact lvc_fil _ _
          rw [FL_len, e2] at hl
          rw [filF_len]
          exact hl
end Go.Proofs.YtpfidohkohldaaaGreatDoor
