import Derived.Laws.CopyOwn
import Derived.Test.YtmlcgcmoioekpaaGreatDoorMpbh
import Derived.Test.YtmlcgcmoioekpaaGreatDoorMpbq
namespace Go.Pin
open Go.RowKit
section
variable {P : Program} {ops : Array Oper} {Q : Exit → Act → World → Prop} {S : World → Prop} {fuel : Nat} {listed : Array Bool} {a : Act} {w : World}
/-- two operations may come up -/
theorem readyQ2 (i j : Nat) {o o' : Oper} (hi : ops[i]? = some o) (hj : ops[j]? = some o') (hr : Region.ready .any ops listed = [i, j]) (hw : Region.wanted o (yielded ops a.tmps) = true) (hw' : Region.wanted o' (yielded ops a.tmps) = true)
    (h : ∀ K : Act → World → Prop, (∀ a' w', S w' → wpAnyH P .any ops Q S fuel (listed.setIfInBounds i true) a' w' → K a' w') → Oper.wp P o a w K Q)
    (h' : ∀ K : Act → World → Prop, (∀ a' w', S w' → wpAnyH P .any ops Q S fuel (listed.setIfInBounds j true) a' w' → K a' w') → Oper.wp P o' a w K Q) : wpAnyH P .any ops Q S (fuel + 1) listed a w := by
  refine wpAnyH_all hr (by simp) (fun k hk => ?_)
  rcases (by simpa using hk : k = i ∨ k = j) with rfl | rfl
  · refine wpOp_step hi (fun K hK => ?_)
    rw [if_pos hw]
    exact h K (fun a' w' h1 h2 => hK a' w' ⟨h1, h2⟩)
  · refine wpOp_step hj (fun K hK => ?_)
    rw [if_pos hw']
    exact h' K (fun a' w' h1 h2 => hK a' w' ⟨h1, h2⟩)
end
end Go.Pin
namespace Go.Proofs.YtmlcgcmoioekpaaGreatDoor
set_option linter.unusedSimpArgs false
set_option linter.unusedVariables false
set_option maxRecDepth 100000
open Go.ChangeShapes Go.WideShapes Go.ChangeAt Go.RowKit Go.Pin Go.Pat Go.Deep
theorem mdf_isC (p : Pt) (ws : List ByteArray) : IsC (mdf p ws).2 := by
  unfold mdf
  split
  · exact chk_isC p
  · cases wdsM p ws ws.length with
    | none => exact .inr (.inl rfl)
    | some x =>
      obtain ⟨y, l⟩ := x
      simp only
      split
      · exact chk_isC y
      · exact .inl rfl
/-- the words, and two empty texts behind them -/
def wext (ws : List ByteArray) : List Value := ws.map Value.string ++ [.string ⟨#[]⟩, .string ⟨#[]⟩]
theorem own_full {w : World} {b : Nat} {e : TypeId} {g N : Nat} {xs : List Value} (h : w.ownsRow b e 1 (.slice (some ⟨g, 0, none⟩) N N) N xs) : w.heap[g]? = some (.cells xs.toArray e (0, 0)) := by
  rcases h.2 with ⟨e', e2⟩ | ⟨g', cap', cur, e', hb, hg, h1, h2, h3, h4⟩
  · injection e' with e1; exact nomatch e1
  · injection e' with e1 e2 e3
    injection e1 with e1
    injection e1 with e1
    subst e1 e3
    rw [hg, ← h4, List.take_of_length_le (by rw [← h3]; simp)]
theorem rds_src {w : World} {aw : Option Addr} {n cw : Nat} {ws : List ByteArray} (h : RdS w (.slice aw n cw) ws) (hp : 0 < (ws.map Value.string).length) : ∃ ad, aw = some ad ∧ ∀ j v, (ws.map Value.string)[j]? = some v → w.cell? (ad.add j) = some v := by
  obtain ⟨a, cap, e, h3⟩ := h
  injection e with e1 e2 e3
  subst e1
  obtain ⟨b, o, g1, -⟩ := h3 0 (by simpa using hp)
  refine ⟨_, g1, fun j v hv => ?_⟩
  have hj : j < ws.length := by simpa using (List.getElem?_eq_some_iff.1 hv).1
  obtain ⟨b', o', g1', g2⟩ := h3 j hj
  rw [g1] at g1'
  injection g1' with g1'
  injection g1' with g3 g4
  subst g3 g4
  rw [Addr.add_lit, g2, ← hv]
  simp [List.getD, hj]
theorem wext_splice (ws : List ByteArray) : splice (madeCells (Value.string ⟨#[]⟩).cells ((ws.length + 2) * 1)).toList 0 (ws.map Value.string) = wext ws := by
  have : (Value.string ⟨#[]⟩).cells = #[.string ⟨#[]⟩] := rfl
  rw [this, toList_madeCells_one, Nat.mul_one]
  simp [splice, wext, List.drop_replicate]
theorem box_ne {w : World} {b k o : Nat} {T : TypeId} {x : Int} (hb : w.heap[b]? = some (.cells zPat T)) (h : w.cell? ⟨k, o, none⟩ = some (.int .i64 x)) : k ≠ b := by
  rintro rfl
  rw [cell_of_row _ _ _ _ _ _ hb] at h
  match o, h with
  | 0, h => simp [zPat] at h
  | 1, h => simp [zPat] at h
  | 2, h => simp [zPat] at h
  | 3, h => simp [zPat] at h
  | o + 4, h => simp [zPat] at h
theorem cell_off {w : World} {b k o : Nat} {cs : Array Value} (h : k ≠ b) : (w.setRow b cs).cell? ⟨k, o, none⟩ = w.cell? ⟨k, o, none⟩ := World.cell?_of_block (a := ⟨k, o, none⟩) (setRow_other w b k cs h)
theorem RdN.box {w : World} {b : Nat} {T : TypeId} {cs : Array Value} {v : Value} {C : List Int} (hb : w.heap[b]? = some (.cells zPat T)) (h : RdN w v C) : RdN (w.setRow b cs) v C := by
  obtain ⟨a, cap, e, h1, h2, h3⟩ := h
  refine ⟨a, cap, e, h1, h2, ?_⟩
  rcases h3 with h3 | ⟨k, o, h3, h4⟩
  · exact .inl h3
  · refine .inr ⟨k, o, h3, fun j u hj => ?_⟩
    have := h4 j u hj
    obtain ⟨x, hx⟩ : ∃ x, u = .int .i64 x := by
      have := List.mem_of_getElem? hj
      obtain ⟨x, _, rfl⟩ := List.mem_map.1 this
      exact ⟨x, rfl⟩
    subst hx
    rw [cell_off (box_ne hb this)]
    exact this
theorem RdP.box {w : World} {b : Nat} {T : TypeId} {cs : Array Value} {v : Value} {p : Pt} (hb : w.heap[b]? = some (.cells zPat T)) (h : RdP w v p) : RdP (w.setRow b cs) v p := by
  obtain ⟨v0, v1, vl, e, h0, h1, a, cap, e2, h2, h3, h4⟩ := h
  refine ⟨v0, v1, vl, e, h0.box hb, h1.box hb, a, cap, e2, h2, h3, fun j hj => ?_⟩
  obtain ⟨k, o, u, g1, g2, g3, g4⟩ := h4 j hj
  have hk := box_ne hb g2
  exact ⟨k, o, u, g1, by rw [cell_off hk]; exact g2, by rw [cell_off hk]; exact g3, g4.box hb⟩
/-- a pattern's cells -/
def vPc (P : Pt) (x : Option Addr × Nat × Option Addr × Nat × Option Addr × Nat) : Array Value := #[.string P.nm, .slice x.1 P.b0.length x.2.1, .slice x.2.2.1 P.b1.length x.2.2.2.1, .slice x.2.2.2.2.1 P.ln.length x.2.2.2.2.2]
theorem RdP.vp {w : World} {v : Value} {p : Pt} (h : RdP w v p) : ∃ x, v = .agg (vPc p x) := by
  obtain ⟨a0, k0, a1, k1, al, kl, rfl⟩ := h.sl
  exact ⟨(a0, k0, a1, k1, al, kl), rfl⟩
theorem wext_rd {w : World} {g n : Nat} {T : TypeId} {ws : List ByteArray} (h : w.heap[g]? = some (.cells (wext ws).toArray T (0, 0))) (hn : ws.length = n) (c : Nat) : RdS w (.slice (some ⟨g, 0, none⟩) n c) ws := by
  subst hn
  refine ⟨_, c, rfl, fun j hj => ⟨g, 0, rfl, ?_⟩⟩
  rw [Nat.zero_add, cell_of_row _ _ _ _ _ _ h]
  simp [wext, List.getElem?_append, hj, List.getD]
theorem rds_cell {w : World} {b o n c : Nat} {ws : List ByteArray} (h : RdS w (.slice (some ⟨b, o, none⟩) n c) ws) {i : Nat} (hi : i < ws.length) : w.cell? ⟨b, o + i, none⟩ = some (.string (ws.getD i ⟨#[]⟩)) := by
  obtain ⟨a, cap, e, h3⟩ := h
  injection e with e1
  subst e1
  obtain ⟨b', o', e1, h4⟩ := h3 i hi
  injection e1 with e1
  injection e1 with e1 e2
  subst e1 e2
  exact h4
set_option maxRecDepth 100000 in
set_option maxHeartbeats 4000000 in
theorem modifies_walk {ea : Int → Addr} (v wv : Value) (p : Pt) (ws : List ByteArray) (W : World) (hE : Errs ea W) (hR : RdP W v p) (hw : RdS W wv ws) (hwz : ∀ x ∈ ws, x.size ≤ 140737488355328) (hF : ModC ea) (hK : KnC ea) :
    Calls Tryz.prog 8 #[v, wv] W fun e w' => e = .returned (.bool true) ∧ Below W.heap.size W w' := by
  obtain ⟨a0, p0, a1, p1, al, cl, rfl⟩ := hR.sl
  obtain ⟨aw, cw, rfl, -⟩ := id hw
  obtain ⟨i0, hi, hz0, hz1, hz2⟩ := info_parts parts_str
  have hst := pb_start W p.nm (.slice a0 p.b0.length p0) (.slice a1 p.b1.length p1) (.slice al p.ln.length cl)
  obtain ⟨q, hq⟩ : ∃ q, W.heap.size = q := ⟨_, rfl⟩
  obtain ⟨n, hn⟩ : ∃ n, ws.length = n := ⟨_, rfl⟩
  obtain ⟨W1, hW1⟩ : ∃ W1, W.alloc (.cells #[.string p.nm, .slice a0 p.b0.length p0, .slice a1 p.b1.length p1, .slice al p.ln.length cl] 26) = W1 := ⟨_, rfl⟩
  simp only [hq, hW1] at hst
  have HP1 : Hid (PB q W p.nm (.slice a0 p.b0.length p0) (.slice a1 p.b1.length p1) (.slice al p.ln.length cl) W1) := hst
  have HR : Hid (∀ Y, Below q W Y → RdP Y (.agg #[.string p.nm, .slice a0 p.b0.length p0, .slice a1 p.b1.length p1, .slice al p.ln.length cl]) p) := fun Y hY => hR.below (by rw [hq]; exact hY)
  have HWR : Hid (∀ Y, Below q W Y → RdS Y (.slice aw n cw) ws) := fun Y hY => by rw [← hn]; exact hw.below (by rw [hq]; exact hY)
  have HE : Hid (∀ Y, Below q W Y → Errs ea Y) := fun Y hY => hE.below (by rw [hq]; exact hY)
  have HK : Hid (KnC ea) := hK
  have HF : Hid (ModC ea) := hF
  have HWQ : Hid (W.heap.size = q) := hq
  have HN : Hid (ws.length = n) := hn
  have HWZ : Hid (∀ x ∈ ws, x.size ≤ 140737488355328) := hwz
  have d0 := hst.c0
  have d1 := hst.c1
  have d2 := hst.c2
  have d3 := hst.c3
  have CM := much_any _ p W1 (HR.out W1 hst.old)
  obtain ⟨q1, hq1⟩ : ∃ q1, W1.heap.size = q1 := ⟨_, rfl⟩
  rw [hq1] at CM
  rw [hq, hn]
  clear hst hF hE hK hR hw hwz hn
  by_cases hlt : 200 < n
  · have b1 : (200 : Int) < (n : Int) := by omega
    go_enter Tryz.func8, Tryz.ntmps8
    go_upto_if 18 with (go_at_call 9; refine CM.mono ?_; rintro e w2 ⟨b, rfl, hs, hb⟩; have HP2 : Hid (PB q W p.nm (.slice a0 p.b0.length p0) (.slice a1 p.b1.length p1) (.slice al p.ln.length cl) w2) := HP1.out.below (by rw [hq1]; exact hb); clear hs hb CM d0 d1 d2 d3; rcases b with _ | _)
    all_goals
      have CKN := HK.out w2 (HE.out w2 HP2.out.old)
      go_wp2_with (go_at_call 10; refine CKN.mono ?_; rintro e w6 ⟨rfl, hb⟩; have HB6 : Hid (Below q W w6) := HP2.out.old.trans (hb.mono (by have := HP2.out.old.size; have := HWQ.out; omega)); clear hb CKN)
      go_ret
      exact ⟨rfl, HB6.out⟩
  have b1 : ¬ (200 : Int) < (n : Int) := by omega
  have b2 : (n : Int) ≤ 200 := by omega
  go_enter Tryz.func8, Tryz.ntmps8
  go_upto_if 18 with (go_at_call 9; refine CM.mono ?_; rintro e w2 ⟨b, rfl, hs, hb⟩; have HS : Hid (b = false → Sml p) := hs; have HP2 : Hid (PB q W p.nm (.slice a0 p.b0.length p0) (.slice a1 p.b1.length p1) (.slice al p.ln.length cl) w2) := HP1.out.below (by rw [hq1]; exact hb); clear hs hb CM d0 d1 d2 d3; rcases b with _ | _)
  rotate_left
  · have CKN := HK.out w2 (HE.out w2 HP2.out.old)
    go_wp2_with (go_at_call 10; refine CKN.mono ?_; rintro e w6 ⟨rfl, hb⟩; have HB6 : Hid (Below q W w6) := HP2.out.old.trans (hb.mono (by have := HP2.out.old.size; have := HWQ.out; omega)); clear hb CKN)
    go_ret
    exact ⟨rfl, HB6.out⟩
  have hs := HS.out trivial
  have d0 := HP2.out.c0
  have d1 := HP2.out.c1
  have d2 := HP2.out.c2
  have d3 := HP2.out.c3
  have CR := roomy_rm (HR.out w2 HP2.out.old) hs
  obtain ⟨q2, hq2⟩ : ∃ q2, w2.heap.size = q2 := ⟨_, rfl⟩
  rw [hq2] at CR
  have HSM : Hid (Sml p) := hs
  clear hs
  go_upto_region 4 with (go_at_call 11; refine CR.mono ?_; rintro e w3 ⟨u, rfl, hr, hb⟩; obtain ⟨c0, l0, c1, l1, cv, ll, rfl⟩ := hr.sl; have HR3 : Hid (Rmy w3 _ p) := hr; have HP3 : Hid (PB q W p.nm (.slice a0 p.b0.length p0) (.slice a1 p.b1.length p1) (.slice al p.ln.length cl) w3) := HP2.out.below (by rw [hq2]; exact hb); clear hr hb CR d0 d1 d2 d3)
  have hpb := pb_start w3 p.nm (.slice c0 p.b0.length l0) (.slice c1 p.b1.length l1) (.slice cv p.ln.length ll)
  obtain ⟨q3, hq3⟩ : ∃ q3, w3.heap.size = q3 := ⟨_, rfl⟩
  obtain ⟨W4, hW4⟩ : ∃ W4, w3.alloc (.cells #[.string p.nm, .slice c0 p.b0.length l0, .slice c1 p.b1.length l1, .slice cv p.ln.length ll] 26) = W4 := ⟨_, rfl⟩
  simp only [hq3, hW4] at hpb ⊢
  have HQ4 : Hid (PB q3 w3 p.nm (.slice c0 p.b0.length l0) (.slice c1 p.b1.length l1) (.slice cv p.ln.length ll) W4) := hpb
  have HP4 : Hid (PB q W p.nm (.slice a0 p.b0.length p0) (.slice a1 p.b1.length p1) (.slice al p.ln.length cl) W4) := HP3.out.below (by rw [hq3]; exact hpb.old)
  have HRM : Hid (∀ Y, Below q3 w3 Y → Rmy Y (.agg #[.string p.nm, .slice c0 p.b0.length l0, .slice c1 p.b1.length l1, .slice cv p.ln.length ll]) p) := fun Y hY => HR3.out.below (by rw [hq3]; exact hY)
  obtain ⟨g, hg⟩ : ∃ g, W4.heap.size = g := ⟨_, rfl⟩
  have HG : Hid (W4.heap.size = g) := hg
  clear hpb hW4 hq3
  go_upto_region 5 with (at_make; go_loud (refine wpList_make_full _ rfl _ _ 53 rfl g 9 i0 (.string ⟨#[]⟩) 1 Tryz.underlying53 hi hz0 hz1 _ _ _ _ (n + 2) rfl rfl (by push_cast; rfl) (by push_cast; rfl) (by rw [hz2]; omega) (by unfold maxLen; omega) (by rw [hg]; exact Nat.le_refl _) ?_; rw [hg]; intro w5 ho5 hg5))
  have hb5 : Below g W4 w5 := (Below.refl _ _).grown hg5 (by rw [hg]; exact Nat.le_refl _) (fun k hk => nomatch hk)
  obtain ⟨Z, hZ⟩ : ∃ Z, (madeCells (Value.string ⟨#[]⟩).cells ((n + 2) * 1)).toList = Z := ⟨_, rfl⟩
  obtain ⟨X, hX⟩ : ∃ X, ws.map Value.string = X := ⟨_, rfl⟩
  have HZX : Hid ((madeCells (Value.string ⟨#[]⟩).cells ((n + 2) * 1)).toList = Z ∧ ws.map Value.string = X) := ⟨hZ, hX⟩
  rw [hZ] at ho5
  have HRW5 : Hid (w5.heap[g]? = some (.cells Z.toArray 9 (0, 0))) := own_full ho5
  have HB5 : Hid (Below g W4 w5) := hb5
  have HSR : Hid (0 < X.length → ∃ ad, aw = some ad ∧ ∀ j v, X[j]? = some v → w5.cell? (ad.add j) = some v) := by rw [← hX]; exact rds_src (HWR.out w5 (HP4.out.below (by rw [hg]; exact hb5)).old)
  clear ho5 hg5 hb5
  have HMC : Hid (X.length = Nat.min n (n + 2) ∧ 0 + X.length ≤ Z.length ∧ ∀ v ∈ X, v.oneCell' = true) := ⟨by rw [← hX, List.length_map, HN.out]; exact (Nat.min_eq_left (by omega)).symm, by rw [← hX, ← hZ, List.length_map, HN.out, Array.length_toList, size_madeCells]; omega, by rw [← hX]; exact fun v hv => by obtain ⟨x, _, rfl⟩ := List.mem_map.1 hv; rfl⟩
  clear hZ hX
  go_upto_region 6 with (with_reducible refine at_list ?_; (refine wpList_copy_splice rfl (.tmp 26) (.tmp 27) 53 53 rfl 9 Tryz.underlying53 (by kernel_rfl) (some ⟨g, 0, none⟩) aw (n + 2) (n + 2) n cw rfl rfl g 0 Z 9 HRW5.out X HMC.out.1 (fun h => ⟨rfl, HSR.out h⟩) HMC.out.2.1 HMC.out.2.2 g W4 HB5.out (Nat.le_refl _) ?_; intro w6 hg6 hb6))
  have HX6 : Hid (w6.heap[g]? = some (.cells (wext ws).toArray 9 (0, 0))) := by rw [← wext_splice, HN.out, HZX.out.1, HZX.out.2]; exact hg6.out
  have HB6 : Hid (Below g W4 w6) := hb6
  clear hg6 hb6 HRW5 HSR HMC HB5
  have hb46 : Below W4.heap.size W4 w6 := by rw [HG.out]; exact HB6.out
  have HP6 : Hid (PB q W p.nm (.slice a0 p.b0.length p0) (.slice a1 p.b1.length p1) (.slice al p.ln.length cl) w6) := HP4.out.below hb46
  have HQ6 : Hid (PB q3 w3 p.nm (.slice c0 p.b0.length l0) (.slice c1 p.b1.length l1) (.slice cv p.ln.length ll) w6) := HQ4.out.below hb46
  obtain ⟨P, hP⟩ : ∃ P, (mdf p ws).1 = P := ⟨_, rfl⟩
  have hcc := mdf_isC p ws
  obtain ⟨c, hc⟩ : ∃ c, (mdf p ws).2 = c := ⟨_, rfl⟩
  rw [hc] at hcc
  have HCC : Hid (IsC c) := hcc
  obtain ⟨ev, hev⟩ : ∃ ev, EV ea c = ev := ⟨_, rfl⟩
  have HEV : Hid (EV ea c = ev) := hev
  have HXR : Hid (∀ Y, Below w6.heap.size w6 Y → Y.heap[g]? = some (.cells (wext ws).toArray 9 (0, 0))) := fun Y hY => (hY.block g (Array.getElem?_eq_some_iff.1 HX6.out).1).trans HX6.out
  have HMD : Hid (∀ Y, Below w6.heap.size w6 Y → Calls Tryz.prog 27 #[.agg #[.string p.nm, .slice c0 p.b0.length l0, .slice c1 p.b1.length l1, .slice cv p.ln.length ll], .slice (some ⟨g, 0, none⟩) n (n + 2)] Y fun e w' => ∃ x, e = .returned (.tuple #[.agg (vPc P x), ev]) ∧ (RdP w' (.agg (vPc P x)) P ∧ Below Y.heap.size Y w')) := fun Y hY => by
    refine (HF.out _ _ p ws Y (HE.out Y (HP6.out.below hY).old) (HRM.out Y (HQ6.out.below hY).old).rd (wext_rd (HXR.out Y hY) HN.out (n + 2)) (by have := HSM.out.2.2.2.1; omega) (by rw [HN.out]; omega) HWZ.out (fun a k c e => by injection e with _ e2 e3; omega)).mono ?_
    rintro e w' ⟨u, rfl, h1, h2⟩
    rw [hP] at h1
    obtain ⟨x, rfl⟩ := h1.vp
    exact ⟨x, by rw [hc, hev], h1, h2⟩
  clear hb46 hcc
  have HPC : Hid ((mdf p ws).1 = P ∧ (mdf p ws).2 = c) := ⟨hP, hc⟩
  clear hP hc hev
  have bn2 : (n : Int) ≤ (n : Int) + 2 := by omega
  have bn0 : (0 : Int) ≤ (n : Int) := by omega
  simp only [Act.put, List.setIfInBounds_toArray, List.set_cons_zero, List.set_cons_succ]
  go_cut [7, 8] (fun v7 v8 wx => ∃ b x, v7 = .pointer (some ⟨b, 0, none⟩) ∧ v8 = ev ∧ w6.heap.size ≤ b ∧ wx.heap[b]? = some (.cells (vPc P x) 26) ∧ RdP wx (.agg (vPc P x)) P ∧ Below w6.heap.size w6 wx)
  · refine Go.Pin.wp_region_hcls (fun Y => Below w6.heap.size w6 Y) 12 (by rfl) (by kernel_rfl) ((Below.refl _ _).drew) ?_
    intro Sq fq hNq hRq hSq
    have y0 := fun x => (HQ6.out.below (hRq x)).c0
    have y1 := fun x => (HQ6.out.below (hRq x)).c1
    have y2 := fun x => (HQ6.out.below (hRq x)).c2
    have y3 := fun x => (HQ6.out.below (hRq x)).c3
    have st0 : Below w6.heap.size w6 w6.drew := (Below.refl _ _).drew
    refine Go.Pin.takeQ 0 (by simp only [List.getElem?_toArray, List.getElem?_cons_zero, List.getElem?_cons_succ]; exact rfl) (by kernel_rfl) (by kernel_rfl) (by kernel_rfl) (by rfl) (fun _ _ d _ _ h => by cases d <;> exact h) (st0) (hSq).out (by kernel_rfl) ?_
    intro Kq hKq
    go_big_quiet_op
    go_big_quiet_on
    refine Go.Pin.takeQ 1 (by simp only [List.getElem?_toArray, List.getElem?_cons_zero, List.getElem?_cons_succ]; exact rfl) (by kernel_rfl) (by kernel_rfl) (by kernel_rfl) (by rfl) (fun _ _ d _ _ h => by cases d <;> exact h) (st0) (hSq).out (by kernel_rfl) ?_
    intro Kq hKq
    go_big_quiet_op
    go_big_quiet_on
    refine Go.Pin.takeQ 2 (by simp only [List.getElem?_toArray, List.getElem?_cons_zero, List.getElem?_cons_succ]; exact rfl) (by kernel_rfl) (by kernel_rfl) (by kernel_rfl) (by rfl) (fun _ _ d _ _ h => by cases d <;> exact h) (st0) (hSq).out (by kernel_rfl) ?_
    intro Kq hKq
    go_big_quiet_op
    go_big_quiet_on
    refine Go.Pin.takeQ 3 (by simp only [List.getElem?_toArray, List.getElem?_cons_zero, List.getElem?_cons_succ]; exact rfl) (by kernel_rfl) (by kernel_rfl) (by kernel_rfl) (by rfl) (fun _ _ d _ _ h => by cases d <;> exact h) (st0) (hSq).out (by kernel_rfl) ?_
    intro Kq hKq
    go_big_quiet_op
    go_big_quiet_on
    refine Go.Pin.takeQ 4 (by simp only [List.getElem?_toArray, List.getElem?_cons_zero, List.getElem?_cons_succ]; exact rfl) (by kernel_rfl) (by kernel_rfl) (by kernel_rfl) (by rfl) (fun _ _ d _ _ h => by cases d <;> exact h) (st0) (hSq).out (by kernel_rfl) ?_
    intro Kq hKq
    go_big_quiet_op
    go_big_quiet_on
    obtain ⟨wd, hwd⟩ : ∃ wd, w6.drew = wd := ⟨_, rfl⟩
    rw [hwd] at st0
    rw [hwd]
    have CW := HMD.out wd st0
    have hst1 : Below wd.heap.size wd (wd.alloc (.cells zPat 26)) := (Below.refl _ _).alloc (Nat.le_refl _) _
    have st1 : Below w6.heap.size w6 (wd.alloc (.cells zPat 26)) := st0.trans (hst1.mono st0.size)
    have CV := HMD.out _ st1
    refine Go.Pin.readyQ2 5 9 (by simp only [List.getElem?_toArray, List.getElem?_cons_zero, List.getElem?_cons_succ]; exact rfl) (by simp only [List.getElem?_toArray, List.getElem?_cons_zero, List.getElem?_cons_succ]; exact rfl) (by kernel_rfl) (by kernel_rfl) (by kernel_rfl) ?_ ?_
    · intro K hK
      refine wpCallX (d := some 35) (v := fun x => .tuple #[.agg (vPc P x), ev]) rfl rfl (args := #[.agg #[.string p.nm, .slice c0 p.b0.length l0, .slice c1 p.b1.length l1, .slice cv p.ln.length ll], .slice (some ⟨g, 0, none⟩) n (n + 2)]) (by simp only [List.map_toArray, List.map_cons, List.map_nil]; rfl) (fun _ => rfl) CW (fun x w7 h7 => ?_)
      have st7 : Below w6.heap.size w6 w7 := st0.trans (h7.2.mono st0.size)
      refine hK _ _ st7 ?_
      simp only [Act.put, List.setIfInBounds_toArray, List.set_cons_zero, List.set_cons_succ]
      clear hK K CW CV
      refine Go.Pin.takeQ 6 (by simp only [List.getElem?_toArray, List.getElem?_cons_zero, List.getElem?_cons_succ]; exact rfl) (by kernel_rfl) (by kernel_rfl) (by kernel_rfl) (by rfl) (fun _ _ d _ _ h => by cases d <;> exact h) (st7) (hSq).out (by kernel_rfl) ?_
      intro Kq hKq
      go_big_quiet_op
      go_big_quiet_on
      refine Go.Pin.takeQ 7 (by simp only [List.getElem?_toArray, List.getElem?_cons_zero, List.getElem?_cons_succ]; exact rfl) (by kernel_rfl) (by kernel_rfl) (by kernel_rfl) (by rfl) (fun _ _ d _ _ h => by cases d <;> exact h) (st7) (hSq).out (by kernel_rfl) ?_
      intro Kq hKq
      go_big_quiet_op
      go_big_quiet_on
      refine Go.Pin.takeQ 8 (by simp only [List.getElem?_toArray, List.getElem?_cons_zero, List.getElem?_cons_succ]; exact rfl) (by kernel_rfl) (by kernel_rfl) (by kernel_rfl) (by rfl) (fun _ _ d _ _ h => by cases d <;> exact h) (st7) (hSq).out (by kernel_rfl) ?_
      intro Kq hKq
      go_big_quiet_op
      go_big_quiet_on
      have hst8 : Below w7.heap.size w7 (w7.alloc (.cells zPat 26)) := (Below.refl _ _).alloc (Nat.le_refl _) _
      have st8 : Below w6.heap.size w6 (w7.alloc (.cells zPat 26)) := st7.trans (hst8.mono st7.size)
      refine Go.Pin.readyQ 9 (by simp only [List.getElem?_toArray, List.getElem?_cons_zero, List.getElem?_cons_succ]; exact rfl) (by kernel_rfl) (by kernel_rfl) ?_
      intro K hK
      refine wpRun (d := some 7) (v := .pointer (some ⟨w7.heap.size, 0, none⟩)) (w' := w7.alloc (.cells zPat 26)) rfl (by unfold execOp; go_simp) (hK _ _ st8 ?_)
      simp only [Act.put, List.setIfInBounds_toArray, List.set_cons_zero, List.set_cons_succ]
      clear hK K
      refine Go.Pin.readyQ 10 (by simp only [List.getElem?_toArray, List.getElem?_cons_zero, List.getElem?_cons_succ]; exact rfl) (by kernel_rfl) (by kernel_rfl) ?_
      intro K hK
      have hrow : (w7.alloc (.cells zPat 26)).heap[w7.heap.size]? = some (.cells zPat 26) := heap_alloc_new _ _
      refine wp_store_row 26 (.tmp 7) (.tmp 36) rfl w7.heap.size (vPc P x) rfl rfl 26 zPat hrow (ip4 _ _ _ _) rfl (by simp [vPc, Value.oneCell']) ?_
      have st9 : Below w6.heap.size w6 ((w7.alloc (.cells zPat 26)).setRow w7.heap.size (vPc P x)) := Go.Pin.below_setRow st8 _ st7.size _
      refine hK _ _ st9 ?_
      simp only [Act.put, List.setIfInBounds_toArray, List.set_cons_zero, List.set_cons_succ]
      clear hK K
      have hrd : RdP ((w7.alloc (.cells zPat 26)).setRow w7.heap.size (vPc P x)) (.agg (vPc P x)) P := (h7.1.below hst8).box hrow
      have hrw : ((w7.alloc (.cells zPat 26)).setRow w7.heap.size (vPc P x)).heap[w7.heap.size]? = some (.cells (vPc P x) 26) := setRow_heap _ _ _ _ _ _ hrow
      have hle : w6.heap.size ≤ w7.heap.size := st7.size
      refine Go.Pin.takeQ 11 (by simp only [List.getElem?_toArray, List.getElem?_cons_zero, List.getElem?_cons_succ]; exact rfl) (by kernel_rfl) (by kernel_rfl) (by kernel_rfl) (by rfl) (fun _ _ d _ _ h => by cases d <;> exact h) (st9) (hSq).out (by kernel_rfl) ?_
      intro Kq hKq
      go_big_quiet_op
      go_big_quiet_on
      refine wpAnyH_done (by kernel_rfl) ?_ _
      go_wp2_with fail
      go_meet
      exact ⟨_, x, rfl, rfl, hle, hrw, hrd, st9⟩
    · intro K hK
      have hrow : (wd.alloc (.cells zPat 26)).heap[wd.heap.size]? = some (.cells zPat 26) := heap_alloc_new _ _
      refine wpRun (d := some 7) (v := .pointer (some ⟨wd.heap.size, 0, none⟩)) (w' := wd.alloc (.cells zPat 26)) rfl (by unfold execOp; go_simp) (hK _ _ st1 ?_)
      simp only [Act.put, List.setIfInBounds_toArray, List.set_cons_zero, List.set_cons_succ]
      clear hK K
      obtain ⟨w7, hw7⟩ : ∃ w7, wd.alloc (.cells zPat 26) = w7 := ⟨_, rfl⟩
      rw [hw7] at CV hrow st1
      rw [hw7]
      refine Go.Pin.readyQ 5 (by simp only [List.getElem?_toArray, List.getElem?_cons_zero, List.getElem?_cons_succ]; exact rfl) (by kernel_rfl) (by kernel_rfl) ?_
      intro K hK
      refine wpCallX (d := some 35) (v := fun x => .tuple #[.agg (vPc P x), ev]) rfl rfl (args := #[.agg #[.string p.nm, .slice c0 p.b0.length l0, .slice c1 p.b1.length l1, .slice cv p.ln.length ll], .slice (some ⟨g, 0, none⟩) n (n + 2)]) (by simp only [List.map_toArray, List.map_cons, List.map_nil]; rfl) (fun _ => rfl) CV (fun x w8 h8 => ?_)
      have st8 : Below w6.heap.size w6 w8 := st1.trans (h8.2.mono st1.size)
      have hrow8 : w8.heap[wd.heap.size]? = some (.cells zPat 26) := (h8.2.block _ (Array.getElem?_eq_some_iff.1 hrow).1).trans hrow
      refine hK _ _ st8 ?_
      simp only [Act.put, List.setIfInBounds_toArray, List.set_cons_zero, List.set_cons_succ]
      clear hK K CW CV
      refine Go.Pin.takeQ 6 (by simp only [List.getElem?_toArray, List.getElem?_cons_zero, List.getElem?_cons_succ]; exact rfl) (by kernel_rfl) (by kernel_rfl) (by kernel_rfl) (by rfl) (fun _ _ d _ _ h => by cases d <;> exact h) (st8) (hSq).out (by kernel_rfl) ?_
      intro Kq hKq
      go_big_quiet_op
      go_big_quiet_on
      refine Go.Pin.takeQ 7 (by simp only [List.getElem?_toArray, List.getElem?_cons_zero, List.getElem?_cons_succ]; exact rfl) (by kernel_rfl) (by kernel_rfl) (by kernel_rfl) (by rfl) (fun _ _ d _ _ h => by cases d <;> exact h) (st8) (hSq).out (by kernel_rfl) ?_
      intro Kq hKq
      go_big_quiet_op
      go_big_quiet_on
      refine Go.Pin.takeQ 8 (by simp only [List.getElem?_toArray, List.getElem?_cons_zero, List.getElem?_cons_succ]; exact rfl) (by kernel_rfl) (by kernel_rfl) (by kernel_rfl) (by rfl) (fun _ _ d _ _ h => by cases d <;> exact h) (st8) (hSq).out (by kernel_rfl) ?_
      intro Kq hKq
      go_big_quiet_op
      go_big_quiet_on
      refine Go.Pin.readyQ 10 (by simp only [List.getElem?_toArray, List.getElem?_cons_zero, List.getElem?_cons_succ]; exact rfl) (by kernel_rfl) (by kernel_rfl) ?_
      intro K hK
      refine wp_store_row 26 (.tmp 7) (.tmp 36) rfl wd.heap.size (vPc P x) rfl rfl 26 zPat hrow8 (ip4 _ _ _ _) rfl (by simp [vPc, Value.oneCell']) ?_
      have st9 : Below w6.heap.size w6 (w8.setRow wd.heap.size (vPc P x)) := Go.Pin.below_setRow st8 _ st0.size _
      refine hK _ _ st9 ?_
      simp only [Act.put, List.setIfInBounds_toArray, List.set_cons_zero, List.set_cons_succ]
      clear hK K
      have hrd : RdP (w8.setRow wd.heap.size (vPc P x)) (.agg (vPc P x)) P := h8.1.box hrow8
      have hrw : (w8.setRow wd.heap.size (vPc P x)).heap[wd.heap.size]? = some (.cells (vPc P x) 26) := setRow_heap _ _ _ _ _ _ hrow8
      have hle : w6.heap.size ≤ wd.heap.size := st0.size
      refine Go.Pin.takeQ 11 (by simp only [List.getElem?_toArray, List.getElem?_cons_zero, List.getElem?_cons_succ]; exact rfl) (by kernel_rfl) (by kernel_rfl) (by kernel_rfl) (by rfl) (fun _ _ d _ _ h => by cases d <;> exact h) (st9) (hSq).out (by kernel_rfl) ?_
      intro Kq hKq
      go_big_quiet_op
      go_big_quiet_on
      refine wpAnyH_done (by kernel_rfl) ?_ _
      go_wp2_with fail
      go_meet
      exact ⟨_, x, rfl, rfl, hle, hrw, hrd, st9⟩
  obtain ⟨b, x, rfl, rfl, hle, hrw, hrd, hbl⟩ := hcut
  obtain ⟨e0, f0, e1, f1, e2, f2⟩ := x
  have hbw : wc.heap[b]? = some (.cells #[.string P.nm, .slice e0 P.b0.length f0, .slice e1 P.b1.length f1, .slice e2 P.ln.length f2] 26) := hrw
  have hrd' : RdP wc (.agg #[.string P.nm, .slice e0 P.b0.length f0, .slice e1 P.b1.length f1, .slice e2 P.ln.length f2]) P := hrd
  have HPC7 : Hid (PB q W p.nm (.slice a0 p.b0.length p0) (.slice a1 p.b1.length p1) (.slice al p.ln.length cl) wc) := HP6.out.below hbl
  have HQC7 : Hid (PB q3 w3 p.nm (.slice c0 p.b0.length l0) (.slice c1 p.b1.length l1) (.slice cv p.ln.length ll) wc) := HQ6.out.below hbl
  have HXC7 : Hid (wc.heap[g]? = some (.cells (wext ws).toArray 9 (0, 0))) := HXR.out wc hbl
  have HBW : Hid (wc.heap[b]? = some (.cells #[.string P.nm, .slice e0 P.b0.length f0, .slice e1 P.b1.length f1, .slice e2 P.ln.length f2] 26)) := hbw
  have HRD : Hid (RdP wc (.agg #[.string P.nm, .slice e0 P.b0.length f0, .slice e1 P.b1.length f1, .slice e2 P.ln.length f2]) P) := hrd'
  clear hbw hrd' hrw hrd hle hbl HMD HXR HX6 HB6
  have d0 := HPC7.out.c0
  have d1 := HPC7.out.c1
  have d2 := HPC7.out.c2
  have d3 := HPC7.out.c3
  obtain ⟨q7, hq7⟩ : ∃ q7, wc.heap.size = q7 := ⟨_, rfl⟩
  have CRM : Calls Tryz.prog 28 #[.agg #[.string p.nm, .slice a0 p.b0.length p0, .slice a1 p.b1.length p1, .slice al p.ln.length cl], .slice aw n cw] wc fun e w' => ∃ g0 h0 g1 h1 g2 h2, e = .returned (.tuple #[.agg #[.string P.nm, .slice g0 P.b0.length h0, .slice g1 P.b1.length h1, .slice g2 P.ln.length h2], .int .i64 c]) ∧ RdP w' (.agg #[.string P.nm, .slice g0 P.b0.length h0, .slice g1 P.b1.length h1, .slice g2 P.ln.length h2]) P ∧ Below q7 wc w' := by
    refine (modify_any _ _ p ws wc (HR.out wc HPC7.out.old) (HWR.out wc HPC7.out.old) (by have := HSM.out.2.2.2.1; omega) (by rw [HN.out]; omega) HWZ.out).mono ?_
    rintro e w' ⟨k1, u, rfl, k2⟩
    rw [HPC.out.1] at k2
    obtain ⟨g0, h0, g1, h1, g2, h2, rfl⟩ := k2.sl
    exact ⟨g0, h0, g1, h1, g2, h2, by rw [HPC.out.2], k2, by rw [← hq7]; exact k1⟩
  go_upto_region 8 with (go_at_call 28; refine CRM.mono ?_; rintro e w7 ⟨g0, h0, g1, h1, g2, h2, rfl, hr7, hb7⟩; have HR7 : Hid (RdP w7 (.agg #[.string P.nm, .slice g0 P.b0.length h0, .slice g1 P.b1.length h1, .slice g2 P.ln.length h2]) P) := hr7; have HB7 : Hid (Below q7 wc w7) := hb7; clear hr7 hb7 CRM d0 d1 d2 d3)
  have hpb := pb_start w7 P.nm (.slice g0 P.b0.length h0) (.slice g1 P.b1.length h1) (.slice g2 P.ln.length h2)
  obtain ⟨q8, hq8⟩ : ∃ q8, w7.heap.size = q8 := ⟨_, rfl⟩
  obtain ⟨W8, hW8⟩ : ∃ W8, w7.alloc (.cells #[.string P.nm, .slice g0 P.b0.length h0, .slice g1 P.b1.length h1, .slice g2 P.ln.length h2] 26) = W8 := ⟨_, rfl⟩
  simp only [hq8, hW8] at hpb ⊢
  have hb8 : Below wc.heap.size wc W8 := by
    have := HB7.out
    rw [← hq7] at this
    exact this.trans (hpb.old.mono (by rw [← hq8]; exact this.size))
  have HALL : Hid (∀ Y, Below W8.heap.size W8 Y → PB q W p.nm (.slice a0 p.b0.length p0) (.slice a1 p.b1.length p1) (.slice al p.ln.length cl) Y ∧ PB q3 w3 p.nm (.slice c0 p.b0.length l0) (.slice c1 p.b1.length l1) (.slice cv p.ln.length ll) Y ∧ PB q8 w7 P.nm (.slice g0 P.b0.length h0) (.slice g1 P.b1.length h1) (.slice g2 P.ln.length h2) Y ∧ Y.heap[g]? = some (.cells (wext ws).toArray 9 (0, 0)) ∧ Y.heap[b]? = some (.cells #[.string P.nm, .slice e0 P.b0.length f0, .slice e1 P.b1.length f1, .slice e2 P.ln.length f2] 26) ∧ RdP Y (.agg #[.string P.nm, .slice e0 P.b0.length f0, .slice e1 P.b1.length f1, .slice e2 P.ln.length f2]) P) := fun Y hY => by
    have hY8 : Below wc.heap.size wc Y := hb8.trans (hY.mono hb8.size)
    exact ⟨HPC7.out.below hY8, HQC7.out.below hY8, hpb.below hY, (hY8.block g (Array.getElem?_eq_some_iff.1 HXC7.out).1).trans HXC7.out, (hY8.block b (Array.getElem?_eq_some_iff.1 HBW.out).1).trans HBW.out, HRD.out.below hY8⟩
  have HS8 : Hid (∀ Y, Below W8.heap.size W8 Y → Calls Tryz.prog 20 #[.agg #[.string P.nm, .slice e0 P.b0.length f0, .slice e1 P.b1.length f1, .slice e2 P.ln.length f2], .agg #[.string P.nm, .slice g0 P.b0.length h0, .slice g1 P.b1.length h1, .slice g2 P.ln.length h2]] Y fun e w' => e = .returned (.bool true) ∧ Below Y.heap.size Y w') := fun Y hY => same_true (HALL.out Y hY).2.2.2.2.2 (HR7.out.below (by rw [hq8]; exact (HALL.out Y hY).2.2.1.old))
  have HL8 : Hid (∀ Y, Below W8.heap.size W8 Y → Calls Tryz.prog 15 #[.agg #[.string p.nm, .slice c0 p.b0.length l0, .slice c1 p.b1.length l1, .slice cv p.ln.length ll], .agg #[.string p.nm, .slice a0 p.b0.length p0, .slice a1 p.b1.length p1, .slice al p.ln.length cl]] Y fun e w' => e = .returned (.bool true) ∧ Below Y.heap.size Y w') := fun Y hY => left_true (HRM.out Y (HALL.out Y hY).2.1.old) (HR.out Y (HALL.out Y hY).1.old)
  have CC := code_any (HE.out W8 (HALL.out W8 (Below.refl _ _)).1.old) c HCC.out
  rw [HEV.out] at CC
  have HPR : Hid (∀ Y : World, Y.heap[b]? = some (.cells #[.string P.nm, .slice e0 P.b0.length f0, .slice e1 P.b1.length f1, .slice e2 P.ln.length f2] 26) → Y.cell? ⟨b, 0, none⟩ = some (.string P.nm) ∧ Y.cell? ⟨b, 1, none⟩ = some (.slice e0 P.b0.length f0) ∧ Y.cell? ⟨b, 2, none⟩ = some (.slice e1 P.b1.length f1) ∧ Y.cell? ⟨b, 3, none⟩ = some (.slice e2 P.ln.length f2)) := fun Y h => ⟨by rw [cell_of_row _ _ _ _ _ _ h]; rfl, by rw [cell_of_row _ _ _ _ _ _ h]; rfl, by rw [cell_of_row _ _ _ _ _ _ h]; rfl, by rw [cell_of_row _ _ _ _ _ _ h]; rfl⟩
  have HEX : Hid (∀ Y : World, Y.heap[g]? = some (.cells (wext ws).toArray 9 (0, 0)) → Y.cell? ⟨g, n, none⟩ = some (.string ⟨#[]⟩) ∧ Y.cell? ⟨g, n + 1, none⟩ = some (.string ⟨#[]⟩)) := fun Y h => by
    rw [← HN.out]
    exact ⟨by rw [cell_of_row _ _ _ _ _ _ h]; simp [wext], by rw [cell_of_row _ _ _ _ _ _ h]; simp [wext]⟩
  obtain ⟨q9, hq9⟩ : ∃ q9, W8.heap.size = q9 := ⟨_, rfl⟩
  rw [hq9] at HALL HS8 HL8
  have x0 := (HPR.out W8 (HALL.out W8 (Below.refl _ _)).2.2.2.2.1).1
  have x1 := (HPR.out W8 (HALL.out W8 (Below.refl _ _)).2.2.2.2.1).2.1
  have x2 := (HPR.out W8 (HALL.out W8 (Below.refl _ _)).2.2.2.2.1).2.2.1
  have x3 := (HPR.out W8 (HALL.out W8 (Below.refl _ _)).2.2.2.2.1).2.2.2
  have y0 := hpb.c0
  have y1 := hpb.c1
  have y2 := hpb.c2
  have y3 := hpb.c3
  have CS := HS8.out W8 (Below.refl _ _)
  rw [hq9] at CS
  have hee : (c == c) = true := by simp
  have bn3 : (n : Int) < (n : Int) + 2 := by omega
  have bn4 : (n : Int) + 1 < (n : Int) + 2 := by omega
  have HQ9 : Hid (W8.heap.size = q9) := hq9
  clear hpb hb8 hW8 hq8 hq9
  go_upto_if 76 with (first
    | (go_at_call 12; refine CC.mono ?_; rintro e w' ⟨rfl, hww⟩; have hww := hww.symm; subst hww; clear CC)
    | (go_at_call 20; refine CS.mono ?_; rintro e w9 ⟨rfl, hb⟩; have HB9 : Hid (Below q9 W8 w9) := hb; have t0 := (HALL.out w9 hb).1.c0; have t1 := (HALL.out w9 hb).1.c1; have t2 := (HALL.out w9 hb).1.c2; have t3 := (HALL.out w9 hb).1.c3; have s0 := (HALL.out w9 hb).2.1.c0; have s1 := (HALL.out w9 hb).2.1.c1; have s2 := (HALL.out w9 hb).2.1.c2; have s3 := (HALL.out w9 hb).2.1.c3; have CL := HL8.out w9 hb; clear hb CS x0 x1 x2 x3 y0 y1 y2 y3)
    | (go_at_call 15; refine CL.mono ?_; rintro e w10 ⟨rfl, hb⟩; have HB10 : Hid (Below q9 W8 w10) := HB9.out.trans (hb.mono (by have := HB9.out.size; have := HQ9.out; omega)); have z0 := (HEX.out w10 (HALL.out w10 HB10.out).2.2.2.1).1; have z1 := (HEX.out w10 (HALL.out w10 HB10.out).2.2.2.1).2; clear hb CL t0 t1 t2 t3 s0 s1 s2 s3))
  clear z0 z1
  go_wp2
  go_loopw [11] (fun v11 wr => ∃ i : Nat, i ≤ n ∧ v11 = .int .i64 (i : Int) ∧ Below q9 W8 wr) (fun v _ => n - (intOf v).toNat)
  case atStart => exact ⟨0, Nat.zero_le _, rfl, HB10.out⟩
  case round =>
    obtain ⟨i, hin, rfl, hb⟩ := hrel
    have HBR : Hid (Below q9 W8 wr) := hb
    by_cases hil : i < n
    · have r1 : (i : Int) < (n : Int) := by omega
      have r2 : (i : Int) < (n : Int) + 2 := by omega
      obtain ⟨bw, ow, hbo⟩ : ∃ bw ow, aw = some ⟨bw, ow, none⟩ := by
        obtain ⟨a, cap, e, h3⟩ := HWR.out wr (HALL.out wr hb).1.old
        injection e with e1
        subst e1
        obtain ⟨b', o', e1, _⟩ := h3 i (by rw [HN.out]; exact hil)
        exact ⟨b', o', e1⟩
      subst hbo
      obtain ⟨sx, hsx⟩ : ∃ sx, ws.getD i ⟨#[]⟩ = sx := ⟨_, rfl⟩
      have HCE : Hid (∀ Y, Below q9 W8 Y → Y.cell? ⟨g, i, none⟩ = some (.string sx) ∧ Y.cell? ⟨bw, ow + i, none⟩ = some (.string sx)) := fun Y hY => by
        have h1 := rds_cell (wext_rd (HALL.out Y hY).2.2.2.1 HN.out 0) (i := i) (by rw [HN.out]; exact hil)
        have h2 := rds_cell (HWR.out Y (HALL.out Y hY).1.old) (i := i) (by rw [HN.out]; exact hil)
        rw [hsx] at h1 h2
        rw [Nat.zero_add] at h1
        exact ⟨h1, h2⟩
      have HIL : Hid (i < n) := hil
      clear hin hb hil hsx
      go_wp2_with fail
      refine Go.Pin.wp_region_cls (fun Y => Below q9 W8 Y) (by kernel_rfl) (by kernel_rfl) (HBR.out.drew) ?_
      intro Sq fq hNq hRq hSq
      have z0 := fun x => (HCE.out (fq x) (hRq x)).1
      have z1 := fun x => (HCE.out (fq x) (hRq x)).2
      repeat (go_big_quiet_step (fail))
      refine wpQuiet_nil ?_
      intro _ hw'
      obtain ⟨xq, hw''⟩ := hw'
      subst hw''
      have HYq := hRq xq
      generalize fq xq = Y at HYq ⊢
      clear hRq hSq hNq xq fq Sq z0 z1
      have HY : Hid (Below q9 W8 Y) := HYq
      clear HYq
      go_wp2
      exact ⟨⟨i + 1, HIL.out, congrArg (Value.int .i64) (by omega), HY.out⟩, by have := HIL.out; show n - ((i : Int) + 1).toNat < n - ((i : Int)).toNat; omega⟩
    · have r1 : ¬ (i : Int) < (n : Int) := by omega
      have CKN := HK.out wr (HE.out wr (HALL.out wr hb).1.old)
      have HBQ : Hid (Below q W wr) := (HALL.out wr hb).1.old
      clear hb hin
      go_wp2_with (go_at_call 10; refine CKN.mono ?_; rintro e w6 ⟨rfl, hb⟩; have HBZ : Hid (Below q W w6) := HBQ.out.trans (hb.mono (by have := HBQ.out.size; have := HWQ.out; omega)); clear hb CKN)
      go_ret
      exact ⟨rfl, HBZ.out⟩
end Go.Proofs.YtmlcgcmoioekpaaGreatDoor
