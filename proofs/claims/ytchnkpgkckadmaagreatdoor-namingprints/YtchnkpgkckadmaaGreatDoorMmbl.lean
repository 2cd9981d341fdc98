import Derived.Test.YtchnkpgkckadmaaGreatDoorMmbj
import Derived.Test.YtchnkpgkckadmaaGreatDoorMmbh
namespace Go.Proofs.YtchnkpgkckadmaaGreatDoor
set_option linter.unusedSimpArgs false
set_option linter.unusedVariables false
set_option maxRecDepth 100000
open Go.ChangeShapes Go.WideShapes Go.ChangeAt Go.RowKit Go.Pin Go.Pat
theorem eCnt_le (l : List Int) : eCnt l ≤ l.length := List.length_filter_le _ _
theorem sCnt_le (l : List Int) : sCnt l ≤ l.length := List.length_filter_le _ _
theorem eCnt_take (l : List Int) {i : Nat} (h : i < l.length) : eCnt (l.take (i + 1)) = eCnt (l.take i) + if l.getD i 0 = 1 then 1 else 0 := by
  unfold eCnt
  rw [List.take_add_one, List.getElem?_eq_getElem h, List.filter_append, List.length_append]
  have : l.getD i 0 = l[i] := by simp [List.getD, h]
  rw [this]
  simp only [Option.toList]
  by_cases h1 : l[i] = 1 <;> simp [h1]
theorem sCnt_take (l : List Int) {i : Nat} (h : i < l.length) : sCnt (l.take (i + 1)) = sCnt (l.take i) + if l.getD i 0 = 1 then 0 else 1 := by
  unfold sCnt
  rw [List.take_add_one, List.getElem?_eq_getElem h, List.filter_append, List.length_append]
  have : l.getD i 0 = l[i] := by simp [List.getD, h]
  rw [this]
  simp only [Option.toList]
  by_cases h1 : l[i] = 1 <;> simp [h1]
/-- back's boxes: the pattern, the result, the first line -/
structure P3 (q : Nat) (w : World) (nm : ByteArray) (v0 v1 vl : Value) (f : Int) (u : Value) (wr : World) : Prop where
  p2 : P2 q w nm v0 v1 vl wr
  lt : q + 2 < wr.heap.size
  row3 : wr.heap[q + 2]? = some (.cells #[.int .i64 f, u] 55)
section
variable {q : Nat} {w wr w' : World} {nm : ByteArray} {v0 v1 vl u : Value} {f : Int}
theorem P3.below (h : P3 q w nm v0 v1 vl f u wr) (hb : Below wr.heap.size wr w') : P3 q w nm v0 v1 vl f u w' := ⟨h.p2.below hb, Nat.lt_of_lt_of_le h.lt hb.size, (hb.block _ h.lt).trans h.row3⟩
theorem P3.l0 (h : P3 q w nm v0 v1 vl f u wr) : wr.cell? ⟨q + 2, 0, none⟩ = some (.int .i64 f) := by rw [cell_of_row _ _ _ _ _ _ h.row3]; rfl
theorem P3.l1 (h : P3 q w nm v0 v1 vl f u wr) : wr.cell? ⟨q + 2, 1, none⟩ = some u := by rw [cell_of_row _ _ _ _ _ _ h.row3]; rfl
theorem P3.grown (h : P3 q w nm v0 v1 vl f u wr) {row : Option Nat} (hg : wr.grownBy w' row) (h2 : ∀ k, row = some k → q + 3 ≤ k) : P3 q w nm v0 v1 vl f u w' :=
  ⟨h.p2.grownO hg (fun k hk => by have := h2 k hk; omega), Nat.lt_of_lt_of_le h.lt hg.size, (hg.block _ h.lt (fun e => by have := h2 _ e.symm; omega)).trans h.row3⟩
end
/-- what back answers -/
def BkP (p : Pt) (v0 v1 vl : Value) (q : Nat) (W : World) (e : Ending) (w' : World) : Prop := Below q W w' ∧
  ((bck p = none ∧ e = .returned (.tuple #[.agg #[.string p.nm, v0, v1, vl], .bool false])) ∨
   ∃ (x : Value) (f : Int) (C : List Int) (a : Option Addr) (g o n cap : Nat), vl = .slice (some ⟨g, o, none⟩) (n + 1) (cap + 1) ∧ w'.ownsRow (q + 3) 3 1 x C.length (C.map (Value.int .i64)) ∧ (n = 0 ∨ a = some ⟨g, o + 2, none⟩) ∧ C.length ≤ 2 ∧
     ((f = 0 ∧ bck p = some ⟨p.nm, C, p.b1, p.ln.tail⟩ ∧ e = .returned (.tuple #[.agg #[.string p.nm, x, v1, .slice a n cap], .bool true])) ∨
      (f = 1 ∧ bck p = some ⟨p.nm, p.b0, C, p.ln.tail⟩ ∧ e = .returned (.tuple #[.agg #[.string p.nm, v0, x, .slice a n cap], .bool true]))))
set_option maxRecDepth 100000 in
set_option maxHeartbeats 8000000 in
theorem back_any (p : Pt) (W : World) (v0 v1 : Value) (g o n cap : Nat) (h0 : RdN W v0 p.b0) (h1 : RdN W v1 p.b1) (hl : RdL W (.slice (some ⟨g, o, none⟩) (n + 1) (cap + 1)) p.ln) (h0l : p.b0.length ≤ 1000) (h1l : p.b1.length ≤ 1000) (hnl : n ≤ cap) (hn1 : n ≤ 1000) (hft : (p.ln.getD 0 (0, [])).1 = 0 ∨ (p.ln.getD 0 (0, [])).1 = 1) (htl : (p.ln.getD 0 (0, [])).2.length ≤ 1000) :
    Calls Tryz.prog 39 #[.agg #[.string p.nm, v0, v1, .slice (some ⟨g, o, none⟩) (n + 1) (cap + 1)]] W fun e w' => BkP p v0 v1 (.slice (some ⟨g, o, none⟩) (n + 1) (cap + 1)) W.heap.size W e w' := by
  obtain ⟨a0, p0, rfl, -, z0, -⟩ := id h0
  obtain ⟨a1, p1, rfl, -, z1, -⟩ := id h1
  have hlen := hl.len
  have hst := p2_start W p.nm (.slice a0 p.b0.length p0) (.slice a1 p.b1.length p1) (.slice (some ⟨g, o, none⟩) (n + 1) (cap + 1))
  obtain ⟨W0, hW0⟩ : ∃ W0, (W.alloc (.cells #[.string p.nm, .slice a0 p.b0.length p0, .slice a1 p.b1.length p1, .slice (some ⟨g, o, none⟩) (n + 1) (cap + 1)] 26)).alloc (.cells #[.string ⟨#[]⟩, .slice none 0 0, .slice none 0 0, .slice none 0 0] 26) = W0 := ⟨_, rfl⟩
  rw [hW0] at hst
  obtain ⟨b', o', a2, n2, c2, hgo, hc, hn, hn2⟩ := hl.at (j := 0) (by omega)
  injection hgo with hgo
  injection hgo with e1 e2
  subst e1 e2
  have hln : p.ln = p.ln.getD 0 (0, []) :: p.ln.tail := by
    cases hp : p.ln with
    | nil => rw [hp] at hlen; simp at hlen
    | cons x y => rfl
  have hbk : bck p = (let m := if (p.ln.getD 0 (0, [])).1 = 1 then p.b1 else p.b0; if ahd (p.ln.getD 0 (0, [])).2 = false then none else if 1 < eCnt (p.ln.getD 0 (0, [])).2 + eCnt m ∨ 1 < sCnt (p.ln.getD 0 (0, [])).2 + sCnt m then none else some (if (p.ln.getD 0 (0, [])).1 = 1 then ⟨p.nm, p.b0, kn (eCnt (p.ln.getD 0 (0, [])).2 + eCnt m) (sCnt (p.ln.getD 0 (0, [])).2 + sCnt m), p.ln.tail⟩ else ⟨p.nm, kn (eCnt (p.ln.getD 0 (0, [])).2 + eCnt m) (sCnt (p.ln.getD 0 (0, [])).2 + sCnt m), p.b1, p.ln.tail⟩)) := by
    unfold bck
    rw [hln]
    rfl
  obtain ⟨q, hq⟩ : ∃ q, W.heap.size = q := ⟨_, rfl⟩
  obtain ⟨f, hf⟩ : ∃ f, (p.ln.getD 0 (0, [])).1 = f := ⟨_, rfl⟩
  obtain ⟨ts, hts⟩ : ∃ ts, (p.ln.getD 0 (0, [])).2 = ts := ⟨_, rfl⟩
  rw [hts] at hn hn2 htl hbk
  rw [hf] at hbk hft
  rw [hf, hq] at hc
  subst hn2
  have hsz : (W.alloc (.cells #[.string p.nm, .slice a0 p.b0.length p0, .slice a1 p.b1.length p1, .slice (some ⟨g, o, none⟩) (n + 1) (cap + 1)] 26)).heap.size = q + 1 := by rw [size_alloc, hq]
  have hsz0 : W0.heap.size = q + 2 := by rw [← hW0, size_alloc, hsz]
  rw [hq] at hst
  have c0 := (hc W0 hst.old).1
  have c1 := (hc W0 hst.old).2
  simp only [Nat.zero_mul, Nat.add_zero] at c0 c1
  have p3 := hst.c3
  have HP0 : Hid (P2 q W p.nm (.slice a0 p.b0.length p0) (.slice a1 p.b1.length p1) (.slice (some ⟨g, o, none⟩) (n + 1) (cap + 1)) W0) := hst
  have hrn : ∀ Y, Below q W Y → RdN Y (.slice a2 ts.length c2) ts := fun Y hY => hn.below (by rw [hq]; exact hY)
  have hr0 : ∀ Y, Below q W Y → RdN Y (.slice a0 p.b0.length p0) p.b0 := fun Y hY => h0.below (by rw [hq]; exact hY)
  have hr1 : ∀ Y, Below q W Y → RdN Y (.slice a1 p.b1.length p1) p.b1 := fun Y hY => h1.below (by rw [hq]; exact hY)
  have HRN : Hid _ := hrn
  have HR0 : Hid _ := hr0
  have HR1 : Hid _ := hr1
  have HBK : Hid _ := hbk
  have hcap : (0 : Int) < (n : Int) + 1 := by omega
  rw [hq]
  clear hst hc hn hrn hr0 hr1 hbk hln hlen hl h0 h1 hf hts hsz
  rcases hft with rfl | rfl
  · go_enter Tryz.func39, Tryz.ntmps39
    go_upto_region 2 with fail
    have hp3 : P3 q W p.nm (.slice a0 p.b0.length p0) (.slice a1 p.b1.length p1) (.slice (some ⟨g, o, none⟩) (n + 1) (cap + 1)) 0 (.slice a2 ts.length c2) (W0.alloc (.cells #[.int .i64 0, .slice a2 ts.length c2] 55)) := ⟨HP0.out.below ((Below.refl _ _).alloc (Nat.le_refl _) _), by rw [size_alloc, hsz0]; omega, by have := heap_alloc_new W0 (.cells #[.int .i64 0, .slice a2 ts.length c2] 55); rw [hsz0] at this; exact this⟩
    obtain ⟨W3, hW3⟩ : ∃ W3, W0.alloc (.cells #[.int .i64 0, .slice a2 ts.length c2] 55) = W3 := ⟨_, rfl⟩
    rw [hW3] at hp3
    simp only [hW3]
    have HP3 : Hid (P3 q W p.nm (.slice a0 p.b0.length p0) (.slice a1 p.b1.length p1) (.slice (some ⟨g, o, none⟩) (n + 1) (cap + 1)) 0 (.slice a2 ts.length c2) W3) := hp3
    have l0 := hp3.l0
    have l1 := hp3.l1
    have d0 := hp3.p2.c0
    have d1 := hp3.p2.c1
    have d2 := hp3.p2.c2
    have d3 := hp3.p2.c3
    have r2 := hp3.p2.row2
    have hbk := HBK.out
    simp only [show ¬ ((0 : Int) = 1) by decide, if_false] at hbk
    have CA := ahead_any _ ts W3 (HRN.out W3 hp3.p2.old)
    clear hp3 hW3 hsz0 c0 c1 p3
    by_cases hah : ahd ts = true
    case neg =>
      have hah' : ahd ts = false := by simpa using hah
      have HNO : Hid (bck p = none) := by show bck p = none; rw [hbk, if_pos hah']
      rw [hah'] at CA
      clear hbk hah hah'
      go_upto_region 3 with (go_at_call 66; refine CA.mono ?_; rintro e w1 ⟨rfl, rfl⟩)
      go_wp2_with (with_reducible refine at_list ?_; refine wpList_store_row rfl 26 (.tmp 2) (.tmp 19) rfl (q + 1) #[.string p.nm, .slice a0 p.b0.length p0, .slice a1 p.b1.length p1, .slice (some ⟨g, o, none⟩) (n + 1) (cap + 1)] rfl rfl 26 zPat r2 (ip4 _ _ _ _) rfl (by simp [Value.oneCell']) ?_)
      have hb9 := below_setRow HP3.out.p2.old (q + 1) (by omega) #[.string p.nm, .slice a0 p.b0.length p0, .slice a1 p.b1.length p1, .slice (some ⟨g, o, none⟩) (n + 1) (cap + 1)]
      try simp only [Exit.inBlock, Exit.then]
      refine bodyPost_ret (v := .tuple #[.agg #[.string p.nm, .slice a0 p.b0.length p0, .slice a1 p.b1.length p1, .slice (some ⟨g, o, none⟩) (n + 1) (cap + 1)], .bool false]) ?_ rfl ⟨hb9, .inl ⟨HNO.out, rfl⟩⟩
      exact results_row_tmp (P := Tryz.prog) (fn := Tryz.f39) (p := 2) (u := 3) (ty := 26) rfl _ _ (q + 1) 26 _ (0, 0) _ _ rfl (setRow_heap _ _ _ _ 26 _ r2) Tryz.underlying26 rfl (ip4 _ _ _ _) rfl
    rw [hah] at CA
    have hnah : ¬ ahd ts = false := by rw [hah]; decide
    rw [if_neg hnah] at hbk
    have hts2 := ahd_len hah
    obtain ⟨E, hE⟩ : ∃ E, eCnt ts + eCnt p.b0 = E := ⟨_, rfl⟩
    obtain ⟨S, hS⟩ : ∃ S, sCnt ts + sCnt p.b0 = S := ⟨_, rfl⟩
    rw [hE, hS] at hbk
    have HBB : Hid _ := hbk
    have HES : Hid (eCnt ts + eCnt p.b0 = E ∧ sCnt ts + sCnt p.b0 = S) := ⟨hE, hS⟩
    have hEb : E ≤ 1002 := by have := eCnt_le ts; have := eCnt_le p.b0; omega
    have hSb : S ≤ 1002 := by have := sCnt_le ts; have := sCnt_le p.b0; omega
    clear hbk hnah hah hE hS
    go_upto_region 4 with (go_at_call 66; refine CA.mono ?_; rintro e w1 ⟨rfl, rfl⟩)
    have HP3' : Hid (P3 q W p.nm (.slice a0 p.b0.length p0) (.slice a1 p.b1.length p1) (.slice (some ⟨g, o, none⟩) (n + 1) (cap + 1)) 0 (.slice a2 ts.length c2) w1) := HP3.out
    go_wp2
    go_loopw [5, 6, 7] (fun v5 v6 v7 wr => wr = w1 ∧ ((v7 = .int .i64 0 ∧ v5 = .int .i64 ((0 : Nat) : Int) ∧ v6 = .int .i64 ((0 : Nat) : Int)) ∨ (v7 = .int .i64 1 ∧ v5 = .int .i64 ((0 + eCnt ts : Nat) : Int) ∧ v6 = .int .i64 ((0 + sCnt ts : Nat) : Int)) ∨ (v7 = .int .i64 2 ∧ v5 = .int .i64 (E : Int) ∧ v6 = .int .i64 (S : Int)))) (fun _ _ v _ => 2 - (intOf v).toNat)
    case atStart => exact ⟨rfl, .inl ⟨rfl, rfl, rfl⟩⟩
    case round =>
      obtain ⟨rfl, hr⟩ := hrel
      rcases hr with ⟨rfl, rfl, rfl⟩ | ⟨rfl, rfl, rfl⟩ | ⟨rfl, rfl, rfl⟩
      · have HRD : Hid (RdN wr (.slice a2 ts.length c2) ts) := HRN.out wr HP3'.out.p2.old
        obtain ⟨-, hML, hMa⟩ := (HRD.out).at
        have HMA : Hid _ := hMa
        have hlM : ts.length ≤ 1000 := by omega
        clear hML hMa
        go_wp2
        go_loopw [5, 6, 9] (fun v5 v6 v9 wy => ∃ i : Nat, i ≤ ts.length ∧ v9 = .int .i64 i ∧ v5 = .int .i64 ((0 + eCnt (ts.take i) : Nat) : Int) ∧ v6 = .int .i64 ((0 + sCnt (ts.take i) : Nat) : Int) ∧ wy = wr) (fun _ _ v _ => ts.length - (intOf v).toNat)
        case atStart => exact ⟨0, Nat.zero_le _, rfl, by simp [eCnt], by simp [sCnt], rfl⟩
        case round =>
          obtain ⟨i, hi, rfl, rfl, rfl, rfl⟩ := hrel
          by_cases hlt : i < ts.length
          · have b1 : (i : Int) < (ts.length : Int) := by omega
            obtain ⟨gb, go, hgo, hcc⟩ := HMA.out i hlt
            have cc := hcc _ (Below.refl _ _)
            have he := eCnt_take ts hlt
            have hs := sCnt_take ts hlt
            have hel := eCnt_le (ts.take i)
            have hsl := sCnt_le (ts.take i)
            have htl' : (ts.take i).length ≤ 1000 := by rw [List.length_take]; omega
            subst hgo
            obtain ⟨x, hx⟩ : ∃ x, ts.getD i 0 = x := ⟨_, rfl⟩
            rw [hx] at cc he hs
            obtain ⟨E1, hE1⟩ : ∃ E1, 0 + eCnt (ts.take i) = E1 := ⟨_, rfl⟩
            obtain ⟨S1, hS1⟩ : ∃ S1, 0 + sCnt (ts.take i) = S1 := ⟨_, rfl⟩
            have hE1b : E1 ≤ 3000 := by omega
            have hS1b : S1 ≤ 3000 := by omega
            rw [hE1, hS1]
            have HN : Hid (0 + eCnt (ts.take (i + 1)) = E1 + (if x = 1 then 1 else 0) ∧ 0 + sCnt (ts.take (i + 1)) = S1 + (if x = 1 then 0 else 1)) := ⟨by omega, by omega⟩
            clear he hs hx hE1 hS1 hel hsl hcc
            by_cases hx1 : x = 1
            · have e1 : (x == 1) = true := by simp [hx1]
              simp only [hx1, if_true] at HN
              subst hx1
              go_wp2
              exact ⟨⟨i + 1, hlt, congrArg (Value.int .i64) (Int.natCast_succ i).symm, congrArg (Value.int .i64) (by have := HN.out.1; omega), congrArg (Value.int .i64) (by have := HN.out.2; omega), trivial⟩, by show ts.length - ((i : Int) + 1).toNat < ts.length - ((i : Int)).toNat; omega⟩
            · have e1 : (x == 1) = false := by simpa using hx1
              simp only [hx1, if_false] at HN
              clear hx1
              go_wp2
              exact ⟨⟨i + 1, hlt, congrArg (Value.int .i64) (Int.natCast_succ i).symm, congrArg (Value.int .i64) (by have := HN.out.1; omega), congrArg (Value.int .i64) (by have := HN.out.2; omega), trivial⟩, by show ts.length - ((i : Int) + 1).toNat < ts.length - ((i : Int)).toNat; omega⟩
          · have b1 : ¬ (i : Int) < (ts.length : Int) := by omega
            have HTK : Hid (ts.take i = ts) := List.take_of_length_le (by omega)
            have hel := eCnt_le ts
            have hsl := sCnt_le ts
            rw [HTK.out]
            go_wp2
            exact ⟨⟨trivial, .inr (.inl ⟨rfl, rfl, rfl⟩)⟩, by decide⟩
      · have HRD : Hid (RdN wr (.slice a0 p.b0.length p0) p.b0) := HR0.out wr HP3'.out.p2.old
        have het := eCnt_le ts
        have hst := sCnt_le ts
        obtain ⟨X, hX⟩ : ∃ X, 0 + eCnt ts = X := ⟨_, rfl⟩
        obtain ⟨Y, hY⟩ : ∃ Y, 0 + sCnt ts = Y := ⟨_, rfl⟩
        have hXb : X ≤ 2 := by omega
        have hYb : Y ≤ 2 := by omega
        rw [hX, hY]
        have HXY : Hid (X + eCnt p.b0 = E ∧ Y + sCnt p.b0 = S) := ⟨by have := HES.out; omega, by have := HES.out; omega⟩
        clear hX hY het hst
        obtain ⟨-, hML, hMa⟩ := (HRD.out).at
        have HMA : Hid _ := hMa
        have hlM : p.b0.length ≤ 1000 := by omega
        clear hML hMa
        go_wp2
        go_loopw [5, 6, 9] (fun v5 v6 v9 wy => ∃ i : Nat, i ≤ p.b0.length ∧ v9 = .int .i64 i ∧ v5 = .int .i64 ((X + eCnt (p.b0.take i) : Nat) : Int) ∧ v6 = .int .i64 ((Y + sCnt (p.b0.take i) : Nat) : Int) ∧ wy = wr) (fun _ _ v _ => p.b0.length - (intOf v).toNat)
        case atStart => exact ⟨0, Nat.zero_le _, rfl, by simp [eCnt], by simp [sCnt], rfl⟩
        case round =>
          obtain ⟨i, hi, rfl, rfl, rfl, rfl⟩ := hrel
          by_cases hlt : i < p.b0.length
          · have b1 : (i : Int) < (p.b0.length : Int) := by omega
            obtain ⟨gb, go, hgo, hcc⟩ := HMA.out i hlt
            have cc := hcc _ (Below.refl _ _)
            have he := eCnt_take p.b0 hlt
            have hs := sCnt_take p.b0 hlt
            have hel := eCnt_le (p.b0.take i)
            have hsl := sCnt_le (p.b0.take i)
            have htl' : (p.b0.take i).length ≤ 1000 := by rw [List.length_take]; omega
            subst hgo
            obtain ⟨x, hx⟩ : ∃ x, p.b0.getD i 0 = x := ⟨_, rfl⟩
            rw [hx] at cc he hs
            obtain ⟨E1, hE1⟩ : ∃ E1, X + eCnt (p.b0.take i) = E1 := ⟨_, rfl⟩
            obtain ⟨S1, hS1⟩ : ∃ S1, Y + sCnt (p.b0.take i) = S1 := ⟨_, rfl⟩
            have hE1b : E1 ≤ 3000 := by omega
            have hS1b : S1 ≤ 3000 := by omega
            rw [hE1, hS1]
            have HN : Hid (X + eCnt (p.b0.take (i + 1)) = E1 + (if x = 1 then 1 else 0) ∧ Y + sCnt (p.b0.take (i + 1)) = S1 + (if x = 1 then 0 else 1)) := ⟨by omega, by omega⟩
            clear he hs hx hE1 hS1 hel hsl hcc
            by_cases hx1 : x = 1
            · have e1 : (x == 1) = true := by simp [hx1]
              simp only [hx1, if_true] at HN
              subst hx1
              go_wp2
              exact ⟨⟨i + 1, hlt, congrArg (Value.int .i64) (Int.natCast_succ i).symm, congrArg (Value.int .i64) (by have := HN.out.1; omega), congrArg (Value.int .i64) (by have := HN.out.2; omega), trivial⟩, by show p.b0.length - ((i : Int) + 1).toNat < p.b0.length - ((i : Int)).toNat; omega⟩
            · have e1 : (x == 1) = false := by simpa using hx1
              simp only [hx1, if_false] at HN
              clear hx1
              go_wp2
              exact ⟨⟨i + 1, hlt, congrArg (Value.int .i64) (Int.natCast_succ i).symm, congrArg (Value.int .i64) (by have := HN.out.1; omega), congrArg (Value.int .i64) (by have := HN.out.2; omega), trivial⟩, by show p.b0.length - ((i : Int) + 1).toNat < p.b0.length - ((i : Int)).toNat; omega⟩
          · have b1 : ¬ (i : Int) < (p.b0.length : Int) := by omega
            have HTK : Hid (p.b0.take i = p.b0) := List.take_of_length_le (by omega)
            have hel := eCnt_le p.b0
            have hsl := sCnt_le p.b0
            rw [HTK.out]
            go_wp2
            exact ⟨⟨trivial, .inr (.inr ⟨rfl, congrArg (fun k : Nat => Value.int .i64 (k : Int)) HXY.out.1, congrArg (fun k : Nat => Value.int .i64 (k : Int)) HXY.out.2⟩)⟩, by decide⟩
      · by_cases hbig : 1 < E ∨ 1 < S
        · have HNO : Hid (bck p = none) := by show bck p = none; rw [HBB.out, if_pos hbig]
          by_cases hE1 : 1 < E
          · have t0 : (1 : Int) < (E : Int) := by omega
            have t1 : decide ((1 : Int) < (E : Int)) = true := decide_eq_true t0
            clear hbig
            go_upto_region 19 with fail
            go_wp2_with (with_reducible refine at_list ?_; refine wpList_store_row rfl 26 (.tmp 2) (.tmp 54) rfl (q + 1) #[.string p.nm, .slice a0 p.b0.length p0, .slice a1 p.b1.length p1, .slice (some ⟨g, o, none⟩) (n + 1) (cap + 1)] rfl rfl 26 zPat r2 (ip4 _ _ _ _) rfl (by simp [Value.oneCell']) ?_)
            have hb9 := below_setRow HP3'.out.p2.old (q + 1) (by omega) #[.string p.nm, .slice a0 p.b0.length p0, .slice a1 p.b1.length p1, .slice (some ⟨g, o, none⟩) (n + 1) (cap + 1)]
            try simp only [Exit.inBlock, Exit.then]
            refine bodyPost_ret (v := .tuple #[.agg #[.string p.nm, .slice a0 p.b0.length p0, .slice a1 p.b1.length p1, .slice (some ⟨g, o, none⟩) (n + 1) (cap + 1)], .bool false]) ?_ rfl ⟨hb9, .inl ⟨HNO.out, rfl⟩⟩
            exact results_row_tmp (P := Tryz.prog) (fn := Tryz.f39) (p := 2) (u := 3) (ty := 26) rfl _ _ (q + 1) 26 _ (0, 0) _ _ rfl (setRow_heap _ _ _ _ 26 _ r2) Tryz.underlying26 rfl (ip4 _ _ _ _) rfl
          · have t0 : ¬ (1 : Int) < (E : Int) := by omega
            have t1 : decide ((1 : Int) < (E : Int)) = false := decide_eq_false t0
            have t2 : (1 : Int) < (S : Int) := by have := hbig.resolve_left hE1; omega
            have t3 : decide ((1 : Int) < (S : Int)) = true := decide_eq_true t2
            clear hbig
            go_upto_region 19 with fail
            go_wp2_with (with_reducible refine at_list ?_; refine wpList_store_row rfl 26 (.tmp 2) (.tmp 54) rfl (q + 1) #[.string p.nm, .slice a0 p.b0.length p0, .slice a1 p.b1.length p1, .slice (some ⟨g, o, none⟩) (n + 1) (cap + 1)] rfl rfl 26 zPat r2 (ip4 _ _ _ _) rfl (by simp [Value.oneCell']) ?_)
            have hb9 := below_setRow HP3'.out.p2.old (q + 1) (by omega) #[.string p.nm, .slice a0 p.b0.length p0, .slice a1 p.b1.length p1, .slice (some ⟨g, o, none⟩) (n + 1) (cap + 1)]
            try simp only [Exit.inBlock, Exit.then]
            refine bodyPost_ret (v := .tuple #[.agg #[.string p.nm, .slice a0 p.b0.length p0, .slice a1 p.b1.length p1, .slice (some ⟨g, o, none⟩) (n + 1) (cap + 1)], .bool false]) ?_ rfl ⟨hb9, .inl ⟨HNO.out, rfl⟩⟩
            exact results_row_tmp (P := Tryz.prog) (fn := Tryz.f39) (p := 2) (u := 3) (ty := 26) rfl _ _ (q + 1) 26 _ (0, 0) _ _ rfl (setRow_heap _ _ _ _ 26 _ r2) Tryz.underlying26 rfl (ip4 _ _ _ _) rfl
        have hE2 : E = 0 ∨ E = 1 := by omega
        have hS2 : S = 0 ∨ S = 1 := by omega
        have HBO := HBB.out
        rw [if_neg hbig] at HBO
        have HBC : Hid _ := HBO
        clear hbig HBO hEb hSb HES HBB
        rcases hE2 with rfl | rfl <;> rcases hS2 with rfl | rfl
        · clear d3 d0 d1 d2 r2 l1
          go_upto_region 25 with fail
          have HK : Hid (P3 q W p.nm (.slice a0 p.b0.length p0) (.slice a1 p.b1.length p1) (.slice (some ⟨g, o, none⟩) (n + 1) (cap + 1)) 0 (.slice a2 ts.length c2) wr ∧ wr.ownsRow (q + 3) 3 1 (.slice none 0 0) 0 []) := ⟨HP3'.out, own_nil0 _ _ _ _⟩
          have zk := HK.out.1.p2.fz 1
          have dk := HK.out.1.p2.c1
          have lk := HK.out.1.l0
          go_upto_region 26 with fail
          have hp5 := HK.out.1.p2.set1 (.slice none 0 0)
          have ho5 := (HK.out.1.p2.sets 1 (.slice none 0 0)).2.2.2
          obtain ⟨W5, hW5⟩ : ∃ W5, wr.setCell ⟨q, 1, none⟩ (.slice none 0 0) = W5 := ⟨_, rfl⟩
          rw [hW5] at hp5 ho5
          simp only [hW5]
          have d3 := hp5.c3
          have f3 := hp5.fz 3
          have HO5 : Hid (∀ b, b ≠ q → W5.heap[b]? = wr.heap[b]?) := ho5
          have HP5 : Hid _ := hp5
          clear hW5 zk dk ho5 hp5 lk
          go_upto_region 27 with fail
          obtain ⟨aL, haL⟩ : ∃ aL, (if cap = 0 then some (⟨g, o, none⟩ : Addr) else some ⟨g, o + 2, none⟩) = aL := ⟨_, rfl⟩
          have haL2 : n = 0 ∨ aL = some ⟨g, o + 2, none⟩ := by
            by_cases hc : cap = 0
            · left; omega
            · right; rw [← haL, if_neg hc]
          simp only [haL]
          have hp6 := HP5.out.set3 (.slice aL n cap)
          have ho6 := (HP5.out.sets 3 (.slice aL n cap)).2.2.2
          obtain ⟨W6, hW6⟩ : ∃ W6, W5.setCell ⟨q, 3, none⟩ (.slice aL n cap) = W6 := ⟨_, rfl⟩
          rw [hW6] at hp6 ho6
          simp only [hW6]
          have HO6 : Hid (∀ b, b ≠ q → W6.heap[b]? = wr.heap[b]?) := fun b hb => (ho6 b hb).trans (HO5.out b hb)
          have HP6 : Hid _ := hp6
          have HAL : Hid _ := haL2
          have e0 := hp6.c0
          have e1 := hp6.c1
          have e2 := hp6.c2
          have e3 := hp6.c3
          have r6 := hp6.row2
          clear hW6 d3 f3 ho6 hp6 haL2 haL
          go_wp2_with (with_reducible refine at_list ?_; refine wpList_store_row rfl 26 (.tmp 2) (.tmp 74) rfl (q + 1) #[.string p.nm, .slice none 0 0, .slice a1 p.b1.length p1, .slice aL n cap] rfl rfl 26 zPat r6 (ip4 _ _ _ _) rfl (by simp [Value.oneCell']) ?_)
          have hb9 := below_setRow HP6.out.old (q + 1) (by omega) #[.string p.nm, .slice none 0 0, .slice a1 p.b1.length p1, .slice aL n cap]
          have ho9 : (W6.setRow (q + 1) #[.string p.nm, .slice none 0 0, .slice a1 p.b1.length p1, .slice aL n cap]).ownsRow (q + 3) 3 1 (.slice none 0 0) ([] : List Int).length (([] : List Int).map (Value.int .i64)) := own_keep HK.out.2 (fun k hk => by
            have := (HK.out.2.lt k hk).1
            rw [setRow_other _ _ _ _ (by omega)]
            exact HO6.out k (by omega))
          try simp only [Exit.inBlock, Exit.then]
          refine bodyPost_ret (v := .tuple #[.agg #[.string p.nm, .slice none 0 0, .slice a1 p.b1.length p1, .slice aL n cap], .bool true]) ?_ rfl ⟨hb9, .inr ⟨.slice none 0 0, 0, [], aL, g, o, n, cap, rfl, ho9, HAL.out, by decide, .inl ⟨rfl, by rw [HBC.out]; rfl, rfl⟩⟩⟩
          exact results_row_tmp (P := Tryz.prog) (fn := Tryz.f39) (p := 2) (u := 3) (ty := 26) rfl _ _ (q + 1) 26 _ (0, 0) _ _ rfl (setRow_heap _ _ _ _ 26 _ r6) Tryz.underlying26 rfl (ip4 _ _ _ _) rfl
        · clear d3 d0 d1 d2 r2 l1
          have HKa0 : Hid (P3 q W p.nm (.slice a0 p.b0.length p0) (.slice a1 p.b1.length p1) (.slice (some ⟨g, o, none⟩) (n + 1) (cap + 1)) 0 (.slice a2 ts.length c2) wr ∧ wr.ownsRow (q + 3) 3 1 (.slice none 0 0) 0 []) := ⟨HP3'.out, own_nil0 _ _ _ _⟩
          have HAa : Hid (P3 q W p.nm (.slice a0 p.b0.length p0) (.slice a1 p.b1.length p1) (.slice (some ⟨g, o, none⟩) (n + 1) (cap + 1)) 0 (.slice a2 ts.length c2) (wr.alloc (.cells #[.int .i64 2] 3)) ∧ (wr.alloc (.cells #[.int .i64 2] 3)).ownsRow (q + 3) 3 1 (.slice none 0 0) 0 []) := ⟨HKa0.out.1.below ((Below.refl _ _).alloc (Nat.le_refl _) _), HKa0.out.2.alloc _⟩
          have HAPa : Hid _ := own_app Tryz.underlying22 parts_int rfl (by decide) HAa.out.2 (a := wr.heap.size) (news := [.int .i64 2]) (t' := 3) (fr := (0, 0)) (heap_alloc_new _ _) rfl (fun u hu => by simp at hu; subst hu; rfl) (by decide) (by decide) (by rw [size_alloc]; have := HKa0.out.1.lt; omega)
          go_upto_region 25 with (at_builtin; go_loud (refine wpList_app _ rfl (.tmp 62) (.tmp 63) 22 22 rfl _ _ rfl rfl HAPa.out ?_; rintro v' wa ⟨h1, h2, -⟩; obtain ⟨axa, cxa, rfl⟩ := own_slice' h1; have HKa : Hid (P3 q W p.nm (.slice a0 p.b0.length p0) (.slice a1 p.b1.length p1) (.slice (some ⟨g, o, none⟩) (n + 1) (cap + 1)) 0 (.slice a2 ts.length c2) wa ∧ wa.ownsRow (q + 3) 3 1 (.slice axa 1 cxa) 1 [.int .i64 2]) := ⟨HAa.out.1.grown h2 (fun k hk => (HAa.out.2.lt k hk).1), h1⟩; clear h1 h2))
          have HK : Hid (P3 q W p.nm (.slice a0 p.b0.length p0) (.slice a1 p.b1.length p1) (.slice (some ⟨g, o, none⟩) (n + 1) (cap + 1)) 0 (.slice a2 ts.length c2) wa ∧ wa.ownsRow (q + 3) 3 1 (.slice axa 1 cxa) 1 [.int .i64 2]) := HKa.out
          have zk := HK.out.1.p2.fz 1
          have dk := HK.out.1.p2.c1
          have lk := HK.out.1.l0
          go_upto_region 26 with fail
          have hp5 := HK.out.1.p2.set1 (.slice axa 1 cxa)
          have ho5 := (HK.out.1.p2.sets 1 (.slice axa 1 cxa)).2.2.2
          obtain ⟨W5, hW5⟩ : ∃ W5, wa.setCell ⟨q, 1, none⟩ (.slice axa 1 cxa) = W5 := ⟨_, rfl⟩
          rw [hW5] at hp5 ho5
          simp only [hW5]
          have d3 := hp5.c3
          have f3 := hp5.fz 3
          have HO5 : Hid (∀ b, b ≠ q → W5.heap[b]? = wa.heap[b]?) := ho5
          have HP5 : Hid _ := hp5
          clear hW5 zk dk ho5 hp5 lk
          go_upto_region 27 with fail
          obtain ⟨aL, haL⟩ : ∃ aL, (if cap = 0 then some (⟨g, o, none⟩ : Addr) else some ⟨g, o + 2, none⟩) = aL := ⟨_, rfl⟩
          have haL2 : n = 0 ∨ aL = some ⟨g, o + 2, none⟩ := by
            by_cases hc : cap = 0
            · left; omega
            · right; rw [← haL, if_neg hc]
          simp only [haL]
          have hp6 := HP5.out.set3 (.slice aL n cap)
          have ho6 := (HP5.out.sets 3 (.slice aL n cap)).2.2.2
          obtain ⟨W6, hW6⟩ : ∃ W6, W5.setCell ⟨q, 3, none⟩ (.slice aL n cap) = W6 := ⟨_, rfl⟩
          rw [hW6] at hp6 ho6
          simp only [hW6]
          have HO6 : Hid (∀ b, b ≠ q → W6.heap[b]? = wa.heap[b]?) := fun b hb => (ho6 b hb).trans (HO5.out b hb)
          have HP6 : Hid _ := hp6
          have HAL : Hid _ := haL2
          have e0 := hp6.c0
          have e1 := hp6.c1
          have e2 := hp6.c2
          have e3 := hp6.c3
          have r6 := hp6.row2
          clear hW6 d3 f3 ho6 hp6 haL2 haL
          go_wp2_with (with_reducible refine at_list ?_; refine wpList_store_row rfl 26 (.tmp 2) (.tmp 74) rfl (q + 1) #[.string p.nm, .slice axa 1 cxa, .slice a1 p.b1.length p1, .slice aL n cap] rfl rfl 26 zPat r6 (ip4 _ _ _ _) rfl (by simp [Value.oneCell']) ?_)
          have hb9 := below_setRow HP6.out.old (q + 1) (by omega) #[.string p.nm, .slice axa 1 cxa, .slice a1 p.b1.length p1, .slice aL n cap]
          have ho9 : (W6.setRow (q + 1) #[.string p.nm, .slice axa 1 cxa, .slice a1 p.b1.length p1, .slice aL n cap]).ownsRow (q + 3) 3 1 (.slice axa 1 cxa) ([2] : List Int).length (([2] : List Int).map (Value.int .i64)) := own_keep HK.out.2 (fun k hk => by
            have := (HK.out.2.lt k hk).1
            rw [setRow_other _ _ _ _ (by omega)]
            exact HO6.out k (by omega))
          try simp only [Exit.inBlock, Exit.then]
          refine bodyPost_ret (v := .tuple #[.agg #[.string p.nm, .slice axa 1 cxa, .slice a1 p.b1.length p1, .slice aL n cap], .bool true]) ?_ rfl ⟨hb9, .inr ⟨.slice axa 1 cxa, 0, [2], aL, g, o, n, cap, rfl, ho9, HAL.out, by decide, .inl ⟨rfl, by rw [HBC.out]; rfl, rfl⟩⟩⟩
          exact results_row_tmp (P := Tryz.prog) (fn := Tryz.f39) (p := 2) (u := 3) (ty := 26) rfl _ _ (q + 1) 26 _ (0, 0) _ _ rfl (setRow_heap _ _ _ _ 26 _ r6) Tryz.underlying26 rfl (ip4 _ _ _ _) rfl
        · clear d3 d0 d1 d2 r2 l1
          have HKa0 : Hid (P3 q W p.nm (.slice a0 p.b0.length p0) (.slice a1 p.b1.length p1) (.slice (some ⟨g, o, none⟩) (n + 1) (cap + 1)) 0 (.slice a2 ts.length c2) wr ∧ wr.ownsRow (q + 3) 3 1 (.slice none 0 0) 0 []) := ⟨HP3'.out, own_nil0 _ _ _ _⟩
          have HAa : Hid (P3 q W p.nm (.slice a0 p.b0.length p0) (.slice a1 p.b1.length p1) (.slice (some ⟨g, o, none⟩) (n + 1) (cap + 1)) 0 (.slice a2 ts.length c2) (wr.alloc (.cells #[.int .i64 1] 3)) ∧ (wr.alloc (.cells #[.int .i64 1] 3)).ownsRow (q + 3) 3 1 (.slice none 0 0) 0 []) := ⟨HKa0.out.1.below ((Below.refl _ _).alloc (Nat.le_refl _) _), HKa0.out.2.alloc _⟩
          have HAPa : Hid _ := own_app Tryz.underlying22 parts_int rfl (by decide) HAa.out.2 (a := wr.heap.size) (news := [.int .i64 1]) (t' := 3) (fr := (0, 0)) (heap_alloc_new _ _) rfl (fun u hu => by simp at hu; subst hu; rfl) (by decide) (by decide) (by rw [size_alloc]; have := HKa0.out.1.lt; omega)
          go_upto_region 25 with (at_builtin; go_loud (refine wpList_app _ rfl (.tmp 57) (.tmp 58) 22 22 rfl _ _ rfl rfl HAPa.out ?_; rintro v' wa ⟨h1, h2, -⟩; obtain ⟨axa, cxa, rfl⟩ := own_slice' h1; have HKa : Hid (P3 q W p.nm (.slice a0 p.b0.length p0) (.slice a1 p.b1.length p1) (.slice (some ⟨g, o, none⟩) (n + 1) (cap + 1)) 0 (.slice a2 ts.length c2) wa ∧ wa.ownsRow (q + 3) 3 1 (.slice axa 1 cxa) 1 [.int .i64 1]) := ⟨HAa.out.1.grown h2 (fun k hk => (HAa.out.2.lt k hk).1), h1⟩; clear h1 h2))
          have HK : Hid (P3 q W p.nm (.slice a0 p.b0.length p0) (.slice a1 p.b1.length p1) (.slice (some ⟨g, o, none⟩) (n + 1) (cap + 1)) 0 (.slice a2 ts.length c2) wa ∧ wa.ownsRow (q + 3) 3 1 (.slice axa 1 cxa) 1 [.int .i64 1]) := HKa.out
          have zk := HK.out.1.p2.fz 1
          have dk := HK.out.1.p2.c1
          have lk := HK.out.1.l0
          go_upto_region 26 with fail
          have hp5 := HK.out.1.p2.set1 (.slice axa 1 cxa)
          have ho5 := (HK.out.1.p2.sets 1 (.slice axa 1 cxa)).2.2.2
          obtain ⟨W5, hW5⟩ : ∃ W5, wa.setCell ⟨q, 1, none⟩ (.slice axa 1 cxa) = W5 := ⟨_, rfl⟩
          rw [hW5] at hp5 ho5
          simp only [hW5]
          have d3 := hp5.c3
          have f3 := hp5.fz 3
          have HO5 : Hid (∀ b, b ≠ q → W5.heap[b]? = wa.heap[b]?) := ho5
          have HP5 : Hid _ := hp5
          clear hW5 zk dk ho5 hp5 lk
          go_upto_region 27 with fail
          obtain ⟨aL, haL⟩ : ∃ aL, (if cap = 0 then some (⟨g, o, none⟩ : Addr) else some ⟨g, o + 2, none⟩) = aL := ⟨_, rfl⟩
          have haL2 : n = 0 ∨ aL = some ⟨g, o + 2, none⟩ := by
            by_cases hc : cap = 0
            · left; omega
            · right; rw [← haL, if_neg hc]
          simp only [haL]
          have hp6 := HP5.out.set3 (.slice aL n cap)
          have ho6 := (HP5.out.sets 3 (.slice aL n cap)).2.2.2
          obtain ⟨W6, hW6⟩ : ∃ W6, W5.setCell ⟨q, 3, none⟩ (.slice aL n cap) = W6 := ⟨_, rfl⟩
          rw [hW6] at hp6 ho6
          simp only [hW6]
          have HO6 : Hid (∀ b, b ≠ q → W6.heap[b]? = wa.heap[b]?) := fun b hb => (ho6 b hb).trans (HO5.out b hb)
          have HP6 : Hid _ := hp6
          have HAL : Hid _ := haL2
          have e0 := hp6.c0
          have e1 := hp6.c1
          have e2 := hp6.c2
          have e3 := hp6.c3
          have r6 := hp6.row2
          clear hW6 d3 f3 ho6 hp6 haL2 haL
          go_wp2_with (with_reducible refine at_list ?_; refine wpList_store_row rfl 26 (.tmp 2) (.tmp 74) rfl (q + 1) #[.string p.nm, .slice axa 1 cxa, .slice a1 p.b1.length p1, .slice aL n cap] rfl rfl 26 zPat r6 (ip4 _ _ _ _) rfl (by simp [Value.oneCell']) ?_)
          have hb9 := below_setRow HP6.out.old (q + 1) (by omega) #[.string p.nm, .slice axa 1 cxa, .slice a1 p.b1.length p1, .slice aL n cap]
          have ho9 : (W6.setRow (q + 1) #[.string p.nm, .slice axa 1 cxa, .slice a1 p.b1.length p1, .slice aL n cap]).ownsRow (q + 3) 3 1 (.slice axa 1 cxa) ([1] : List Int).length (([1] : List Int).map (Value.int .i64)) := own_keep HK.out.2 (fun k hk => by
            have := (HK.out.2.lt k hk).1
            rw [setRow_other _ _ _ _ (by omega)]
            exact HO6.out k (by omega))
          try simp only [Exit.inBlock, Exit.then]
          refine bodyPost_ret (v := .tuple #[.agg #[.string p.nm, .slice axa 1 cxa, .slice a1 p.b1.length p1, .slice aL n cap], .bool true]) ?_ rfl ⟨hb9, .inr ⟨.slice axa 1 cxa, 0, [1], aL, g, o, n, cap, rfl, ho9, HAL.out, by decide, .inl ⟨rfl, by rw [HBC.out]; rfl, rfl⟩⟩⟩
          exact results_row_tmp (P := Tryz.prog) (fn := Tryz.f39) (p := 2) (u := 3) (ty := 26) rfl _ _ (q + 1) 26 _ (0, 0) _ _ rfl (setRow_heap _ _ _ _ 26 _ r6) Tryz.underlying26 rfl (ip4 _ _ _ _) rfl
        · clear d3 d0 d1 d2 r2 l1
          have HKa0 : Hid (P3 q W p.nm (.slice a0 p.b0.length p0) (.slice a1 p.b1.length p1) (.slice (some ⟨g, o, none⟩) (n + 1) (cap + 1)) 0 (.slice a2 ts.length c2) wr ∧ wr.ownsRow (q + 3) 3 1 (.slice none 0 0) 0 []) := ⟨HP3'.out, own_nil0 _ _ _ _⟩
          have HAa : Hid (P3 q W p.nm (.slice a0 p.b0.length p0) (.slice a1 p.b1.length p1) (.slice (some ⟨g, o, none⟩) (n + 1) (cap + 1)) 0 (.slice a2 ts.length c2) (wr.alloc (.cells #[.int .i64 1] 3)) ∧ (wr.alloc (.cells #[.int .i64 1] 3)).ownsRow (q + 3) 3 1 (.slice none 0 0) 0 []) := ⟨HKa0.out.1.below ((Below.refl _ _).alloc (Nat.le_refl _) _), HKa0.out.2.alloc _⟩
          have HAPa : Hid _ := own_app Tryz.underlying22 parts_int rfl (by decide) HAa.out.2 (a := wr.heap.size) (news := [.int .i64 1]) (t' := 3) (fr := (0, 0)) (heap_alloc_new _ _) rfl (fun u hu => by simp at hu; subst hu; rfl) (by decide) (by decide) (by rw [size_alloc]; have := HKa0.out.1.lt; omega)
          go_upto_region 23 with (at_builtin; go_loud (refine wpList_app _ rfl (.tmp 57) (.tmp 58) 22 22 rfl _ _ rfl rfl HAPa.out ?_; rintro v' wa ⟨h1, h2, -⟩; obtain ⟨axa, cxa, rfl⟩ := own_slice' h1; have HKa : Hid (P3 q W p.nm (.slice a0 p.b0.length p0) (.slice a1 p.b1.length p1) (.slice (some ⟨g, o, none⟩) (n + 1) (cap + 1)) 0 (.slice a2 ts.length c2) wa ∧ wa.ownsRow (q + 3) 3 1 (.slice axa 1 cxa) 1 [.int .i64 1]) := ⟨HAa.out.1.grown h2 (fun k hk => (HAa.out.2.lt k hk).1), h1⟩; clear h1 h2))
          have HKb0 : Hid (P3 q W p.nm (.slice a0 p.b0.length p0) (.slice a1 p.b1.length p1) (.slice (some ⟨g, o, none⟩) (n + 1) (cap + 1)) 0 (.slice a2 ts.length c2) wa ∧ wa.ownsRow (q + 3) 3 1 (.slice axa 1 cxa) 1 [.int .i64 1]) := HKa.out
          have HAb : Hid (P3 q W p.nm (.slice a0 p.b0.length p0) (.slice a1 p.b1.length p1) (.slice (some ⟨g, o, none⟩) (n + 1) (cap + 1)) 0 (.slice a2 ts.length c2) (wa.alloc (.cells #[.int .i64 2] 3)) ∧ (wa.alloc (.cells #[.int .i64 2] 3)).ownsRow (q + 3) 3 1 (.slice axa 1 cxa) 1 [.int .i64 1]) := ⟨HKb0.out.1.below ((Below.refl _ _).alloc (Nat.le_refl _) _), HKb0.out.2.alloc _⟩
          have HAPb : Hid _ := own_app Tryz.underlying22 parts_int rfl (by decide) HAb.out.2 (a := wa.heap.size) (news := [.int .i64 2]) (t' := 3) (fr := (0, 0)) (heap_alloc_new _ _) rfl (fun u hu => by simp at hu; subst hu; rfl) (by decide) (by decide) (by rw [size_alloc]; have := HKb0.out.1.lt; omega)
          go_upto_region 25 with (at_builtin; go_loud (refine wpList_app _ rfl (.tmp 62) (.tmp 63) 22 22 rfl _ _ rfl rfl HAPb.out ?_; rintro v' wb ⟨h1, h2, -⟩; obtain ⟨axb, cxb, rfl⟩ := own_slice' h1; have HKb : Hid (P3 q W p.nm (.slice a0 p.b0.length p0) (.slice a1 p.b1.length p1) (.slice (some ⟨g, o, none⟩) (n + 1) (cap + 1)) 0 (.slice a2 ts.length c2) wb ∧ wb.ownsRow (q + 3) 3 1 (.slice axb 2 cxb) 2 [.int .i64 1, .int .i64 2]) := ⟨HAb.out.1.grown h2 (fun k hk => (HAb.out.2.lt k hk).1), h1⟩; clear h1 h2))
          have HK : Hid (P3 q W p.nm (.slice a0 p.b0.length p0) (.slice a1 p.b1.length p1) (.slice (some ⟨g, o, none⟩) (n + 1) (cap + 1)) 0 (.slice a2 ts.length c2) wb ∧ wb.ownsRow (q + 3) 3 1 (.slice axb 2 cxb) 2 [.int .i64 1, .int .i64 2]) := HKb.out
          have zk := HK.out.1.p2.fz 1
          have dk := HK.out.1.p2.c1
          have lk := HK.out.1.l0
          go_upto_region 26 with fail
          have hp5 := HK.out.1.p2.set1 (.slice axb 2 cxb)
          have ho5 := (HK.out.1.p2.sets 1 (.slice axb 2 cxb)).2.2.2
          obtain ⟨W5, hW5⟩ : ∃ W5, wb.setCell ⟨q, 1, none⟩ (.slice axb 2 cxb) = W5 := ⟨_, rfl⟩
          rw [hW5] at hp5 ho5
          simp only [hW5]
          have d3 := hp5.c3
          have f3 := hp5.fz 3
          have HO5 : Hid (∀ b, b ≠ q → W5.heap[b]? = wb.heap[b]?) := ho5
          have HP5 : Hid _ := hp5
          clear hW5 zk dk ho5 hp5 lk
          go_upto_region 27 with fail
          obtain ⟨aL, haL⟩ : ∃ aL, (if cap = 0 then some (⟨g, o, none⟩ : Addr) else some ⟨g, o + 2, none⟩) = aL := ⟨_, rfl⟩
          have haL2 : n = 0 ∨ aL = some ⟨g, o + 2, none⟩ := by
            by_cases hc : cap = 0
            · left; omega
            · right; rw [← haL, if_neg hc]
          simp only [haL]
          have hp6 := HP5.out.set3 (.slice aL n cap)
          have ho6 := (HP5.out.sets 3 (.slice aL n cap)).2.2.2
          obtain ⟨W6, hW6⟩ : ∃ W6, W5.setCell ⟨q, 3, none⟩ (.slice aL n cap) = W6 := ⟨_, rfl⟩
          rw [hW6] at hp6 ho6
          simp only [hW6]
          have HO6 : Hid (∀ b, b ≠ q → W6.heap[b]? = wb.heap[b]?) := fun b hb => (ho6 b hb).trans (HO5.out b hb)
          have HP6 : Hid _ := hp6
          have HAL : Hid _ := haL2
          have e0 := hp6.c0
          have e1 := hp6.c1
          have e2 := hp6.c2
          have e3 := hp6.c3
          have r6 := hp6.row2
          clear hW6 d3 f3 ho6 hp6 haL2 haL
          go_wp2_with (with_reducible refine at_list ?_; refine wpList_store_row rfl 26 (.tmp 2) (.tmp 74) rfl (q + 1) #[.string p.nm, .slice axb 2 cxb, .slice a1 p.b1.length p1, .slice aL n cap] rfl rfl 26 zPat r6 (ip4 _ _ _ _) rfl (by simp [Value.oneCell']) ?_)
          have hb9 := below_setRow HP6.out.old (q + 1) (by omega) #[.string p.nm, .slice axb 2 cxb, .slice a1 p.b1.length p1, .slice aL n cap]
          have ho9 : (W6.setRow (q + 1) #[.string p.nm, .slice axb 2 cxb, .slice a1 p.b1.length p1, .slice aL n cap]).ownsRow (q + 3) 3 1 (.slice axb 2 cxb) ([1, 2] : List Int).length (([1, 2] : List Int).map (Value.int .i64)) := own_keep HK.out.2 (fun k hk => by
            have := (HK.out.2.lt k hk).1
            rw [setRow_other _ _ _ _ (by omega)]
            exact HO6.out k (by omega))
          try simp only [Exit.inBlock, Exit.then]
          refine bodyPost_ret (v := .tuple #[.agg #[.string p.nm, .slice axb 2 cxb, .slice a1 p.b1.length p1, .slice aL n cap], .bool true]) ?_ rfl ⟨hb9, .inr ⟨.slice axb 2 cxb, 0, [1, 2], aL, g, o, n, cap, rfl, ho9, HAL.out, by decide, .inl ⟨rfl, by rw [HBC.out]; rfl, rfl⟩⟩⟩
          exact results_row_tmp (P := Tryz.prog) (fn := Tryz.f39) (p := 2) (u := 3) (ty := 26) rfl _ _ (q + 1) 26 _ (0, 0) _ _ rfl (setRow_heap _ _ _ _ 26 _ r6) Tryz.underlying26 rfl (ip4 _ _ _ _) rfl
  · go_enter Tryz.func39, Tryz.ntmps39
    go_upto_region 2 with fail
    have hp3 : P3 q W p.nm (.slice a0 p.b0.length p0) (.slice a1 p.b1.length p1) (.slice (some ⟨g, o, none⟩) (n + 1) (cap + 1)) 1 (.slice a2 ts.length c2) (W0.alloc (.cells #[.int .i64 1, .slice a2 ts.length c2] 55)) := ⟨HP0.out.below ((Below.refl _ _).alloc (Nat.le_refl _) _), by rw [size_alloc, hsz0]; omega, by have := heap_alloc_new W0 (.cells #[.int .i64 1, .slice a2 ts.length c2] 55); rw [hsz0] at this; exact this⟩
    obtain ⟨W3, hW3⟩ : ∃ W3, W0.alloc (.cells #[.int .i64 1, .slice a2 ts.length c2] 55) = W3 := ⟨_, rfl⟩
    rw [hW3] at hp3
    simp only [hW3]
    have HP3 : Hid (P3 q W p.nm (.slice a0 p.b0.length p0) (.slice a1 p.b1.length p1) (.slice (some ⟨g, o, none⟩) (n + 1) (cap + 1)) 1 (.slice a2 ts.length c2) W3) := hp3
    have l0 := hp3.l0
    have l1 := hp3.l1
    have d0 := hp3.p2.c0
    have d1 := hp3.p2.c1
    have d2 := hp3.p2.c2
    have d3 := hp3.p2.c3
    have r2 := hp3.p2.row2
    have hbk := HBK.out
    simp only [if_true] at hbk
    have CA := ahead_any _ ts W3 (HRN.out W3 hp3.p2.old)
    clear hp3 hW3 hsz0 c0 c1 p3
    by_cases hah : ahd ts = true
    case neg =>
      have hah' : ahd ts = false := by simpa using hah
      have HNO : Hid (bck p = none) := by show bck p = none; rw [hbk, if_pos hah']
      rw [hah'] at CA
      clear hbk hah hah'
      go_upto_region 3 with (go_at_call 66; refine CA.mono ?_; rintro e w1 ⟨rfl, rfl⟩)
      go_wp2_with (with_reducible refine at_list ?_; refine wpList_store_row rfl 26 (.tmp 2) (.tmp 19) rfl (q + 1) #[.string p.nm, .slice a0 p.b0.length p0, .slice a1 p.b1.length p1, .slice (some ⟨g, o, none⟩) (n + 1) (cap + 1)] rfl rfl 26 zPat r2 (ip4 _ _ _ _) rfl (by simp [Value.oneCell']) ?_)
      have hb9 := below_setRow HP3.out.p2.old (q + 1) (by omega) #[.string p.nm, .slice a0 p.b0.length p0, .slice a1 p.b1.length p1, .slice (some ⟨g, o, none⟩) (n + 1) (cap + 1)]
      try simp only [Exit.inBlock, Exit.then]
      refine bodyPost_ret (v := .tuple #[.agg #[.string p.nm, .slice a0 p.b0.length p0, .slice a1 p.b1.length p1, .slice (some ⟨g, o, none⟩) (n + 1) (cap + 1)], .bool false]) ?_ rfl ⟨hb9, .inl ⟨HNO.out, rfl⟩⟩
      exact results_row_tmp (P := Tryz.prog) (fn := Tryz.f39) (p := 2) (u := 3) (ty := 26) rfl _ _ (q + 1) 26 _ (0, 0) _ _ rfl (setRow_heap _ _ _ _ 26 _ r2) Tryz.underlying26 rfl (ip4 _ _ _ _) rfl
    rw [hah] at CA
    have hnah : ¬ ahd ts = false := by rw [hah]; decide
    rw [if_neg hnah] at hbk
    have hts2 := ahd_len hah
    obtain ⟨E, hE⟩ : ∃ E, eCnt ts + eCnt p.b1 = E := ⟨_, rfl⟩
    obtain ⟨S, hS⟩ : ∃ S, sCnt ts + sCnt p.b1 = S := ⟨_, rfl⟩
    rw [hE, hS] at hbk
    have HBB : Hid _ := hbk
    have HES : Hid (eCnt ts + eCnt p.b1 = E ∧ sCnt ts + sCnt p.b1 = S) := ⟨hE, hS⟩
    have hEb : E ≤ 1002 := by have := eCnt_le ts; have := eCnt_le p.b1; omega
    have hSb : S ≤ 1002 := by have := sCnt_le ts; have := sCnt_le p.b1; omega
    clear hbk hnah hah hE hS
    go_upto_region 4 with (go_at_call 66; refine CA.mono ?_; rintro e w1 ⟨rfl, rfl⟩)
    have HP3' : Hid (P3 q W p.nm (.slice a0 p.b0.length p0) (.slice a1 p.b1.length p1) (.slice (some ⟨g, o, none⟩) (n + 1) (cap + 1)) 1 (.slice a2 ts.length c2) w1) := HP3.out
    go_wp2
    go_loopw [5, 6, 7] (fun v5 v6 v7 wr => wr = w1 ∧ ((v7 = .int .i64 0 ∧ v5 = .int .i64 ((0 : Nat) : Int) ∧ v6 = .int .i64 ((0 : Nat) : Int)) ∨ (v7 = .int .i64 1 ∧ v5 = .int .i64 ((0 + eCnt ts : Nat) : Int) ∧ v6 = .int .i64 ((0 + sCnt ts : Nat) : Int)) ∨ (v7 = .int .i64 2 ∧ v5 = .int .i64 (E : Int) ∧ v6 = .int .i64 (S : Int)))) (fun _ _ v _ => 2 - (intOf v).toNat)
    case atStart => exact ⟨rfl, .inl ⟨rfl, rfl, rfl⟩⟩
    case round =>
      obtain ⟨rfl, hr⟩ := hrel
      rcases hr with ⟨rfl, rfl, rfl⟩ | ⟨rfl, rfl, rfl⟩ | ⟨rfl, rfl, rfl⟩
      · have HRD : Hid (RdN wr (.slice a2 ts.length c2) ts) := HRN.out wr HP3'.out.p2.old
        obtain ⟨-, hML, hMa⟩ := (HRD.out).at
        have HMA : Hid _ := hMa
        have hlM : ts.length ≤ 1000 := by omega
        clear hML hMa
        go_wp2
        go_loopw [5, 6, 9] (fun v5 v6 v9 wy => ∃ i : Nat, i ≤ ts.length ∧ v9 = .int .i64 i ∧ v5 = .int .i64 ((0 + eCnt (ts.take i) : Nat) : Int) ∧ v6 = .int .i64 ((0 + sCnt (ts.take i) : Nat) : Int) ∧ wy = wr) (fun _ _ v _ => ts.length - (intOf v).toNat)
        case atStart => exact ⟨0, Nat.zero_le _, rfl, by simp [eCnt], by simp [sCnt], rfl⟩
        case round =>
          obtain ⟨i, hi, rfl, rfl, rfl, rfl⟩ := hrel
          by_cases hlt : i < ts.length
          · have b1 : (i : Int) < (ts.length : Int) := by omega
            obtain ⟨gb, go, hgo, hcc⟩ := HMA.out i hlt
            have cc := hcc _ (Below.refl _ _)
            have he := eCnt_take ts hlt
            have hs := sCnt_take ts hlt
            have hel := eCnt_le (ts.take i)
            have hsl := sCnt_le (ts.take i)
            have htl' : (ts.take i).length ≤ 1000 := by rw [List.length_take]; omega
            subst hgo
            obtain ⟨x, hx⟩ : ∃ x, ts.getD i 0 = x := ⟨_, rfl⟩
            rw [hx] at cc he hs
            obtain ⟨E1, hE1⟩ : ∃ E1, 0 + eCnt (ts.take i) = E1 := ⟨_, rfl⟩
            obtain ⟨S1, hS1⟩ : ∃ S1, 0 + sCnt (ts.take i) = S1 := ⟨_, rfl⟩
            have hE1b : E1 ≤ 3000 := by omega
            have hS1b : S1 ≤ 3000 := by omega
            rw [hE1, hS1]
            have HN : Hid (0 + eCnt (ts.take (i + 1)) = E1 + (if x = 1 then 1 else 0) ∧ 0 + sCnt (ts.take (i + 1)) = S1 + (if x = 1 then 0 else 1)) := ⟨by omega, by omega⟩
            clear he hs hx hE1 hS1 hel hsl hcc
            by_cases hx1 : x = 1
            · have e1 : (x == 1) = true := by simp [hx1]
              simp only [hx1, if_true] at HN
              subst hx1
              go_wp2
              exact ⟨⟨i + 1, hlt, congrArg (Value.int .i64) (Int.natCast_succ i).symm, congrArg (Value.int .i64) (by have := HN.out.1; omega), congrArg (Value.int .i64) (by have := HN.out.2; omega), trivial⟩, by show ts.length - ((i : Int) + 1).toNat < ts.length - ((i : Int)).toNat; omega⟩
            · have e1 : (x == 1) = false := by simpa using hx1
              simp only [hx1, if_false] at HN
              clear hx1
              go_wp2
              exact ⟨⟨i + 1, hlt, congrArg (Value.int .i64) (Int.natCast_succ i).symm, congrArg (Value.int .i64) (by have := HN.out.1; omega), congrArg (Value.int .i64) (by have := HN.out.2; omega), trivial⟩, by show ts.length - ((i : Int) + 1).toNat < ts.length - ((i : Int)).toNat; omega⟩
          · have b1 : ¬ (i : Int) < (ts.length : Int) := by omega
            have HTK : Hid (ts.take i = ts) := List.take_of_length_le (by omega)
            have hel := eCnt_le ts
            have hsl := sCnt_le ts
            rw [HTK.out]
            go_wp2
            exact ⟨⟨trivial, .inr (.inl ⟨rfl, rfl, rfl⟩)⟩, by decide⟩
      · have HRD : Hid (RdN wr (.slice a1 p.b1.length p1) p.b1) := HR1.out wr HP3'.out.p2.old
        have het := eCnt_le ts
        have hst := sCnt_le ts
        obtain ⟨X, hX⟩ : ∃ X, 0 + eCnt ts = X := ⟨_, rfl⟩
        obtain ⟨Y, hY⟩ : ∃ Y, 0 + sCnt ts = Y := ⟨_, rfl⟩
        have hXb : X ≤ 2 := by omega
        have hYb : Y ≤ 2 := by omega
        rw [hX, hY]
        have HXY : Hid (X + eCnt p.b1 = E ∧ Y + sCnt p.b1 = S) := ⟨by have := HES.out; omega, by have := HES.out; omega⟩
        clear hX hY het hst
        obtain ⟨-, hML, hMa⟩ := (HRD.out).at
        have HMA : Hid _ := hMa
        have hlM : p.b1.length ≤ 1000 := by omega
        clear hML hMa
        go_wp2
        go_loopw [5, 6, 9] (fun v5 v6 v9 wy => ∃ i : Nat, i ≤ p.b1.length ∧ v9 = .int .i64 i ∧ v5 = .int .i64 ((X + eCnt (p.b1.take i) : Nat) : Int) ∧ v6 = .int .i64 ((Y + sCnt (p.b1.take i) : Nat) : Int) ∧ wy = wr) (fun _ _ v _ => p.b1.length - (intOf v).toNat)
        case atStart => exact ⟨0, Nat.zero_le _, rfl, by simp [eCnt], by simp [sCnt], rfl⟩
        case round =>
          obtain ⟨i, hi, rfl, rfl, rfl, rfl⟩ := hrel
          by_cases hlt : i < p.b1.length
          · have b1 : (i : Int) < (p.b1.length : Int) := by omega
            obtain ⟨gb, go, hgo, hcc⟩ := HMA.out i hlt
            have cc := hcc _ (Below.refl _ _)
            have he := eCnt_take p.b1 hlt
            have hs := sCnt_take p.b1 hlt
            have hel := eCnt_le (p.b1.take i)
            have hsl := sCnt_le (p.b1.take i)
            have htl' : (p.b1.take i).length ≤ 1000 := by rw [List.length_take]; omega
            subst hgo
            obtain ⟨x, hx⟩ : ∃ x, p.b1.getD i 0 = x := ⟨_, rfl⟩
            rw [hx] at cc he hs
            obtain ⟨E1, hE1⟩ : ∃ E1, X + eCnt (p.b1.take i) = E1 := ⟨_, rfl⟩
            obtain ⟨S1, hS1⟩ : ∃ S1, Y + sCnt (p.b1.take i) = S1 := ⟨_, rfl⟩
            have hE1b : E1 ≤ 3000 := by omega
            have hS1b : S1 ≤ 3000 := by omega
            rw [hE1, hS1]
            have HN : Hid (X + eCnt (p.b1.take (i + 1)) = E1 + (if x = 1 then 1 else 0) ∧ Y + sCnt (p.b1.take (i + 1)) = S1 + (if x = 1 then 0 else 1)) := ⟨by omega, by omega⟩
            clear he hs hx hE1 hS1 hel hsl hcc
            by_cases hx1 : x = 1
            · have e1 : (x == 1) = true := by simp [hx1]
              simp only [hx1, if_true] at HN
              subst hx1
              go_wp2
              exact ⟨⟨i + 1, hlt, congrArg (Value.int .i64) (Int.natCast_succ i).symm, congrArg (Value.int .i64) (by have := HN.out.1; omega), congrArg (Value.int .i64) (by have := HN.out.2; omega), trivial⟩, by show p.b1.length - ((i : Int) + 1).toNat < p.b1.length - ((i : Int)).toNat; omega⟩
            · have e1 : (x == 1) = false := by simpa using hx1
              simp only [hx1, if_false] at HN
              clear hx1
              go_wp2
              exact ⟨⟨i + 1, hlt, congrArg (Value.int .i64) (Int.natCast_succ i).symm, congrArg (Value.int .i64) (by have := HN.out.1; omega), congrArg (Value.int .i64) (by have := HN.out.2; omega), trivial⟩, by show p.b1.length - ((i : Int) + 1).toNat < p.b1.length - ((i : Int)).toNat; omega⟩
          · have b1 : ¬ (i : Int) < (p.b1.length : Int) := by omega
            have HTK : Hid (p.b1.take i = p.b1) := List.take_of_length_le (by omega)
            have hel := eCnt_le p.b1
            have hsl := sCnt_le p.b1
            rw [HTK.out]
            go_wp2
            exact ⟨⟨trivial, .inr (.inr ⟨rfl, congrArg (fun k : Nat => Value.int .i64 (k : Int)) HXY.out.1, congrArg (fun k : Nat => Value.int .i64 (k : Int)) HXY.out.2⟩)⟩, by decide⟩
      · by_cases hbig : 1 < E ∨ 1 < S
        · have HNO : Hid (bck p = none) := by show bck p = none; rw [HBB.out, if_pos hbig]
          by_cases hE1 : 1 < E
          · have t0 : (1 : Int) < (E : Int) := by omega
            have t1 : decide ((1 : Int) < (E : Int)) = true := decide_eq_true t0
            clear hbig
            go_upto_region 19 with fail
            go_wp2_with (with_reducible refine at_list ?_; refine wpList_store_row rfl 26 (.tmp 2) (.tmp 54) rfl (q + 1) #[.string p.nm, .slice a0 p.b0.length p0, .slice a1 p.b1.length p1, .slice (some ⟨g, o, none⟩) (n + 1) (cap + 1)] rfl rfl 26 zPat r2 (ip4 _ _ _ _) rfl (by simp [Value.oneCell']) ?_)
            have hb9 := below_setRow HP3'.out.p2.old (q + 1) (by omega) #[.string p.nm, .slice a0 p.b0.length p0, .slice a1 p.b1.length p1, .slice (some ⟨g, o, none⟩) (n + 1) (cap + 1)]
            try simp only [Exit.inBlock, Exit.then]
            refine bodyPost_ret (v := .tuple #[.agg #[.string p.nm, .slice a0 p.b0.length p0, .slice a1 p.b1.length p1, .slice (some ⟨g, o, none⟩) (n + 1) (cap + 1)], .bool false]) ?_ rfl ⟨hb9, .inl ⟨HNO.out, rfl⟩⟩
            exact results_row_tmp (P := Tryz.prog) (fn := Tryz.f39) (p := 2) (u := 3) (ty := 26) rfl _ _ (q + 1) 26 _ (0, 0) _ _ rfl (setRow_heap _ _ _ _ 26 _ r2) Tryz.underlying26 rfl (ip4 _ _ _ _) rfl
          · have t0 : ¬ (1 : Int) < (E : Int) := by omega
            have t1 : decide ((1 : Int) < (E : Int)) = false := decide_eq_false t0
            have t2 : (1 : Int) < (S : Int) := by have := hbig.resolve_left hE1; omega
            have t3 : decide ((1 : Int) < (S : Int)) = true := decide_eq_true t2
            clear hbig
            go_upto_region 19 with fail
            go_wp2_with (with_reducible refine at_list ?_; refine wpList_store_row rfl 26 (.tmp 2) (.tmp 54) rfl (q + 1) #[.string p.nm, .slice a0 p.b0.length p0, .slice a1 p.b1.length p1, .slice (some ⟨g, o, none⟩) (n + 1) (cap + 1)] rfl rfl 26 zPat r2 (ip4 _ _ _ _) rfl (by simp [Value.oneCell']) ?_)
            have hb9 := below_setRow HP3'.out.p2.old (q + 1) (by omega) #[.string p.nm, .slice a0 p.b0.length p0, .slice a1 p.b1.length p1, .slice (some ⟨g, o, none⟩) (n + 1) (cap + 1)]
            try simp only [Exit.inBlock, Exit.then]
            refine bodyPost_ret (v := .tuple #[.agg #[.string p.nm, .slice a0 p.b0.length p0, .slice a1 p.b1.length p1, .slice (some ⟨g, o, none⟩) (n + 1) (cap + 1)], .bool false]) ?_ rfl ⟨hb9, .inl ⟨HNO.out, rfl⟩⟩
            exact results_row_tmp (P := Tryz.prog) (fn := Tryz.f39) (p := 2) (u := 3) (ty := 26) rfl _ _ (q + 1) 26 _ (0, 0) _ _ rfl (setRow_heap _ _ _ _ 26 _ r2) Tryz.underlying26 rfl (ip4 _ _ _ _) rfl
        have hE2 : E = 0 ∨ E = 1 := by omega
        have hS2 : S = 0 ∨ S = 1 := by omega
        have HBO := HBB.out
        rw [if_neg hbig] at HBO
        have HBC : Hid _ := HBO
        clear hbig HBO hEb hSb HES HBB
        rcases hE2 with rfl | rfl <;> rcases hS2 with rfl | rfl
        · clear d3 d0 d1 d2 r2 l1
          go_upto_region 25 with fail
          have HK : Hid (P3 q W p.nm (.slice a0 p.b0.length p0) (.slice a1 p.b1.length p1) (.slice (some ⟨g, o, none⟩) (n + 1) (cap + 1)) 1 (.slice a2 ts.length c2) wr ∧ wr.ownsRow (q + 3) 3 1 (.slice none 0 0) 0 []) := ⟨HP3'.out, own_nil0 _ _ _ _⟩
          have zk := HK.out.1.p2.fz 2
          have dk := HK.out.1.p2.c2
          have lk := HK.out.1.l0
          go_upto_region 26 with fail
          have hp5 := HK.out.1.p2.set2 (.slice none 0 0)
          have ho5 := (HK.out.1.p2.sets 2 (.slice none 0 0)).2.2.2
          obtain ⟨W5, hW5⟩ : ∃ W5, wr.setCell ⟨q, 2, none⟩ (.slice none 0 0) = W5 := ⟨_, rfl⟩
          rw [hW5] at hp5 ho5
          simp only [hW5]
          have d3 := hp5.c3
          have f3 := hp5.fz 3
          have HO5 : Hid (∀ b, b ≠ q → W5.heap[b]? = wr.heap[b]?) := ho5
          have HP5 : Hid _ := hp5
          clear hW5 zk dk ho5 hp5 lk
          go_upto_region 27 with fail
          obtain ⟨aL, haL⟩ : ∃ aL, (if cap = 0 then some (⟨g, o, none⟩ : Addr) else some ⟨g, o + 2, none⟩) = aL := ⟨_, rfl⟩
          have haL2 : n = 0 ∨ aL = some ⟨g, o + 2, none⟩ := by
            by_cases hc : cap = 0
            · left; omega
            · right; rw [← haL, if_neg hc]
          simp only [haL]
          have hp6 := HP5.out.set3 (.slice aL n cap)
          have ho6 := (HP5.out.sets 3 (.slice aL n cap)).2.2.2
          obtain ⟨W6, hW6⟩ : ∃ W6, W5.setCell ⟨q, 3, none⟩ (.slice aL n cap) = W6 := ⟨_, rfl⟩
          rw [hW6] at hp6 ho6
          simp only [hW6]
          have HO6 : Hid (∀ b, b ≠ q → W6.heap[b]? = wr.heap[b]?) := fun b hb => (ho6 b hb).trans (HO5.out b hb)
          have HP6 : Hid _ := hp6
          have HAL : Hid _ := haL2
          have e0 := hp6.c0
          have e1 := hp6.c1
          have e2 := hp6.c2
          have e3 := hp6.c3
          have r6 := hp6.row2
          clear hW6 d3 f3 ho6 hp6 haL2 haL
          go_wp2_with (with_reducible refine at_list ?_; refine wpList_store_row rfl 26 (.tmp 2) (.tmp 74) rfl (q + 1) #[.string p.nm, .slice a0 p.b0.length p0, .slice none 0 0, .slice aL n cap] rfl rfl 26 zPat r6 (ip4 _ _ _ _) rfl (by simp [Value.oneCell']) ?_)
          have hb9 := below_setRow HP6.out.old (q + 1) (by omega) #[.string p.nm, .slice a0 p.b0.length p0, .slice none 0 0, .slice aL n cap]
          have ho9 : (W6.setRow (q + 1) #[.string p.nm, .slice a0 p.b0.length p0, .slice none 0 0, .slice aL n cap]).ownsRow (q + 3) 3 1 (.slice none 0 0) ([] : List Int).length (([] : List Int).map (Value.int .i64)) := own_keep HK.out.2 (fun k hk => by
            have := (HK.out.2.lt k hk).1
            rw [setRow_other _ _ _ _ (by omega)]
            exact HO6.out k (by omega))
          try simp only [Exit.inBlock, Exit.then]
          refine bodyPost_ret (v := .tuple #[.agg #[.string p.nm, .slice a0 p.b0.length p0, .slice none 0 0, .slice aL n cap], .bool true]) ?_ rfl ⟨hb9, .inr ⟨.slice none 0 0, 1, [], aL, g, o, n, cap, rfl, ho9, HAL.out, by decide, .inr ⟨rfl, by rw [HBC.out]; rfl, rfl⟩⟩⟩
          exact results_row_tmp (P := Tryz.prog) (fn := Tryz.f39) (p := 2) (u := 3) (ty := 26) rfl _ _ (q + 1) 26 _ (0, 0) _ _ rfl (setRow_heap _ _ _ _ 26 _ r6) Tryz.underlying26 rfl (ip4 _ _ _ _) rfl
        · clear d3 d0 d1 d2 r2 l1
          have HKa0 : Hid (P3 q W p.nm (.slice a0 p.b0.length p0) (.slice a1 p.b1.length p1) (.slice (some ⟨g, o, none⟩) (n + 1) (cap + 1)) 1 (.slice a2 ts.length c2) wr ∧ wr.ownsRow (q + 3) 3 1 (.slice none 0 0) 0 []) := ⟨HP3'.out, own_nil0 _ _ _ _⟩
          have HAa : Hid (P3 q W p.nm (.slice a0 p.b0.length p0) (.slice a1 p.b1.length p1) (.slice (some ⟨g, o, none⟩) (n + 1) (cap + 1)) 1 (.slice a2 ts.length c2) (wr.alloc (.cells #[.int .i64 2] 3)) ∧ (wr.alloc (.cells #[.int .i64 2] 3)).ownsRow (q + 3) 3 1 (.slice none 0 0) 0 []) := ⟨HKa0.out.1.below ((Below.refl _ _).alloc (Nat.le_refl _) _), HKa0.out.2.alloc _⟩
          have HAPa : Hid _ := own_app Tryz.underlying22 parts_int rfl (by decide) HAa.out.2 (a := wr.heap.size) (news := [.int .i64 2]) (t' := 3) (fr := (0, 0)) (heap_alloc_new _ _) rfl (fun u hu => by simp at hu; subst hu; rfl) (by decide) (by decide) (by rw [size_alloc]; have := HKa0.out.1.lt; omega)
          go_upto_region 25 with (at_builtin; go_loud (refine wpList_app _ rfl (.tmp 62) (.tmp 63) 22 22 rfl _ _ rfl rfl HAPa.out ?_; rintro v' wa ⟨h1, h2, -⟩; obtain ⟨axa, cxa, rfl⟩ := own_slice' h1; have HKa : Hid (P3 q W p.nm (.slice a0 p.b0.length p0) (.slice a1 p.b1.length p1) (.slice (some ⟨g, o, none⟩) (n + 1) (cap + 1)) 1 (.slice a2 ts.length c2) wa ∧ wa.ownsRow (q + 3) 3 1 (.slice axa 1 cxa) 1 [.int .i64 2]) := ⟨HAa.out.1.grown h2 (fun k hk => (HAa.out.2.lt k hk).1), h1⟩; clear h1 h2))
          have HK : Hid (P3 q W p.nm (.slice a0 p.b0.length p0) (.slice a1 p.b1.length p1) (.slice (some ⟨g, o, none⟩) (n + 1) (cap + 1)) 1 (.slice a2 ts.length c2) wa ∧ wa.ownsRow (q + 3) 3 1 (.slice axa 1 cxa) 1 [.int .i64 2]) := HKa.out
          have zk := HK.out.1.p2.fz 2
          have dk := HK.out.1.p2.c2
          have lk := HK.out.1.l0
          go_upto_region 26 with fail
          have hp5 := HK.out.1.p2.set2 (.slice axa 1 cxa)
          have ho5 := (HK.out.1.p2.sets 2 (.slice axa 1 cxa)).2.2.2
          obtain ⟨W5, hW5⟩ : ∃ W5, wa.setCell ⟨q, 2, none⟩ (.slice axa 1 cxa) = W5 := ⟨_, rfl⟩
          rw [hW5] at hp5 ho5
          simp only [hW5]
          have d3 := hp5.c3
          have f3 := hp5.fz 3
          have HO5 : Hid (∀ b, b ≠ q → W5.heap[b]? = wa.heap[b]?) := ho5
          have HP5 : Hid _ := hp5
          clear hW5 zk dk ho5 hp5 lk
          go_upto_region 27 with fail
          obtain ⟨aL, haL⟩ : ∃ aL, (if cap = 0 then some (⟨g, o, none⟩ : Addr) else some ⟨g, o + 2, none⟩) = aL := ⟨_, rfl⟩
          have haL2 : n = 0 ∨ aL = some ⟨g, o + 2, none⟩ := by
            by_cases hc : cap = 0
            · left; omega
            · right; rw [← haL, if_neg hc]
          simp only [haL]
          have hp6 := HP5.out.set3 (.slice aL n cap)
          have ho6 := (HP5.out.sets 3 (.slice aL n cap)).2.2.2
          obtain ⟨W6, hW6⟩ : ∃ W6, W5.setCell ⟨q, 3, none⟩ (.slice aL n cap) = W6 := ⟨_, rfl⟩
          rw [hW6] at hp6 ho6
          simp only [hW6]
          have HO6 : Hid (∀ b, b ≠ q → W6.heap[b]? = wa.heap[b]?) := fun b hb => (ho6 b hb).trans (HO5.out b hb)
          have HP6 : Hid _ := hp6
          have HAL : Hid _ := haL2
          have e0 := hp6.c0
          have e1 := hp6.c1
          have e2 := hp6.c2
          have e3 := hp6.c3
          have r6 := hp6.row2
          clear hW6 d3 f3 ho6 hp6 haL2 haL
          go_wp2_with (with_reducible refine at_list ?_; refine wpList_store_row rfl 26 (.tmp 2) (.tmp 74) rfl (q + 1) #[.string p.nm, .slice a0 p.b0.length p0, .slice axa 1 cxa, .slice aL n cap] rfl rfl 26 zPat r6 (ip4 _ _ _ _) rfl (by simp [Value.oneCell']) ?_)
          have hb9 := below_setRow HP6.out.old (q + 1) (by omega) #[.string p.nm, .slice a0 p.b0.length p0, .slice axa 1 cxa, .slice aL n cap]
          have ho9 : (W6.setRow (q + 1) #[.string p.nm, .slice a0 p.b0.length p0, .slice axa 1 cxa, .slice aL n cap]).ownsRow (q + 3) 3 1 (.slice axa 1 cxa) ([2] : List Int).length (([2] : List Int).map (Value.int .i64)) := own_keep HK.out.2 (fun k hk => by
            have := (HK.out.2.lt k hk).1
            rw [setRow_other _ _ _ _ (by omega)]
            exact HO6.out k (by omega))
          try simp only [Exit.inBlock, Exit.then]
          refine bodyPost_ret (v := .tuple #[.agg #[.string p.nm, .slice a0 p.b0.length p0, .slice axa 1 cxa, .slice aL n cap], .bool true]) ?_ rfl ⟨hb9, .inr ⟨.slice axa 1 cxa, 1, [2], aL, g, o, n, cap, rfl, ho9, HAL.out, by decide, .inr ⟨rfl, by rw [HBC.out]; rfl, rfl⟩⟩⟩
          exact results_row_tmp (P := Tryz.prog) (fn := Tryz.f39) (p := 2) (u := 3) (ty := 26) rfl _ _ (q + 1) 26 _ (0, 0) _ _ rfl (setRow_heap _ _ _ _ 26 _ r6) Tryz.underlying26 rfl (ip4 _ _ _ _) rfl
        · clear d3 d0 d1 d2 r2 l1
          have HKa0 : Hid (P3 q W p.nm (.slice a0 p.b0.length p0) (.slice a1 p.b1.length p1) (.slice (some ⟨g, o, none⟩) (n + 1) (cap + 1)) 1 (.slice a2 ts.length c2) wr ∧ wr.ownsRow (q + 3) 3 1 (.slice none 0 0) 0 []) := ⟨HP3'.out, own_nil0 _ _ _ _⟩
          have HAa : Hid (P3 q W p.nm (.slice a0 p.b0.length p0) (.slice a1 p.b1.length p1) (.slice (some ⟨g, o, none⟩) (n + 1) (cap + 1)) 1 (.slice a2 ts.length c2) (wr.alloc (.cells #[.int .i64 1] 3)) ∧ (wr.alloc (.cells #[.int .i64 1] 3)).ownsRow (q + 3) 3 1 (.slice none 0 0) 0 []) := ⟨HKa0.out.1.below ((Below.refl _ _).alloc (Nat.le_refl _) _), HKa0.out.2.alloc _⟩
          have HAPa : Hid _ := own_app Tryz.underlying22 parts_int rfl (by decide) HAa.out.2 (a := wr.heap.size) (news := [.int .i64 1]) (t' := 3) (fr := (0, 0)) (heap_alloc_new _ _) rfl (fun u hu => by simp at hu; subst hu; rfl) (by decide) (by decide) (by rw [size_alloc]; have := HKa0.out.1.lt; omega)
          go_upto_region 25 with (at_builtin; go_loud (refine wpList_app _ rfl (.tmp 57) (.tmp 58) 22 22 rfl _ _ rfl rfl HAPa.out ?_; rintro v' wa ⟨h1, h2, -⟩; obtain ⟨axa, cxa, rfl⟩ := own_slice' h1; have HKa : Hid (P3 q W p.nm (.slice a0 p.b0.length p0) (.slice a1 p.b1.length p1) (.slice (some ⟨g, o, none⟩) (n + 1) (cap + 1)) 1 (.slice a2 ts.length c2) wa ∧ wa.ownsRow (q + 3) 3 1 (.slice axa 1 cxa) 1 [.int .i64 1]) := ⟨HAa.out.1.grown h2 (fun k hk => (HAa.out.2.lt k hk).1), h1⟩; clear h1 h2))
          have HK : Hid (P3 q W p.nm (.slice a0 p.b0.length p0) (.slice a1 p.b1.length p1) (.slice (some ⟨g, o, none⟩) (n + 1) (cap + 1)) 1 (.slice a2 ts.length c2) wa ∧ wa.ownsRow (q + 3) 3 1 (.slice axa 1 cxa) 1 [.int .i64 1]) := HKa.out
          have zk := HK.out.1.p2.fz 2
          have dk := HK.out.1.p2.c2
          have lk := HK.out.1.l0
          go_upto_region 26 with fail
          have hp5 := HK.out.1.p2.set2 (.slice axa 1 cxa)
          have ho5 := (HK.out.1.p2.sets 2 (.slice axa 1 cxa)).2.2.2
          obtain ⟨W5, hW5⟩ : ∃ W5, wa.setCell ⟨q, 2, none⟩ (.slice axa 1 cxa) = W5 := ⟨_, rfl⟩
          rw [hW5] at hp5 ho5
          simp only [hW5]
          have d3 := hp5.c3
          have f3 := hp5.fz 3
          have HO5 : Hid (∀ b, b ≠ q → W5.heap[b]? = wa.heap[b]?) := ho5
          have HP5 : Hid _ := hp5
          clear hW5 zk dk ho5 hp5 lk
          go_upto_region 27 with fail
          obtain ⟨aL, haL⟩ : ∃ aL, (if cap = 0 then some (⟨g, o, none⟩ : Addr) else some ⟨g, o + 2, none⟩) = aL := ⟨_, rfl⟩
          have haL2 : n = 0 ∨ aL = some ⟨g, o + 2, none⟩ := by
            by_cases hc : cap = 0
            · left; omega
            · right; rw [← haL, if_neg hc]
          simp only [haL]
          have hp6 := HP5.out.set3 (.slice aL n cap)
          have ho6 := (HP5.out.sets 3 (.slice aL n cap)).2.2.2
          obtain ⟨W6, hW6⟩ : ∃ W6, W5.setCell ⟨q, 3, none⟩ (.slice aL n cap) = W6 := ⟨_, rfl⟩
          rw [hW6] at hp6 ho6
          simp only [hW6]
          have HO6 : Hid (∀ b, b ≠ q → W6.heap[b]? = wa.heap[b]?) := fun b hb => (ho6 b hb).trans (HO5.out b hb)
          have HP6 : Hid _ := hp6
          have HAL : Hid _ := haL2
          have e0 := hp6.c0
          have e1 := hp6.c1
          have e2 := hp6.c2
          have e3 := hp6.c3
          have r6 := hp6.row2
          clear hW6 d3 f3 ho6 hp6 haL2 haL
          go_wp2_with (with_reducible refine at_list ?_; refine wpList_store_row rfl 26 (.tmp 2) (.tmp 74) rfl (q + 1) #[.string p.nm, .slice a0 p.b0.length p0, .slice axa 1 cxa, .slice aL n cap] rfl rfl 26 zPat r6 (ip4 _ _ _ _) rfl (by simp [Value.oneCell']) ?_)
          have hb9 := below_setRow HP6.out.old (q + 1) (by omega) #[.string p.nm, .slice a0 p.b0.length p0, .slice axa 1 cxa, .slice aL n cap]
          have ho9 : (W6.setRow (q + 1) #[.string p.nm, .slice a0 p.b0.length p0, .slice axa 1 cxa, .slice aL n cap]).ownsRow (q + 3) 3 1 (.slice axa 1 cxa) ([1] : List Int).length (([1] : List Int).map (Value.int .i64)) := own_keep HK.out.2 (fun k hk => by
            have := (HK.out.2.lt k hk).1
            rw [setRow_other _ _ _ _ (by omega)]
            exact HO6.out k (by omega))
          try simp only [Exit.inBlock, Exit.then]
          refine bodyPost_ret (v := .tuple #[.agg #[.string p.nm, .slice a0 p.b0.length p0, .slice axa 1 cxa, .slice aL n cap], .bool true]) ?_ rfl ⟨hb9, .inr ⟨.slice axa 1 cxa, 1, [1], aL, g, o, n, cap, rfl, ho9, HAL.out, by decide, .inr ⟨rfl, by rw [HBC.out]; rfl, rfl⟩⟩⟩
          exact results_row_tmp (P := Tryz.prog) (fn := Tryz.f39) (p := 2) (u := 3) (ty := 26) rfl _ _ (q + 1) 26 _ (0, 0) _ _ rfl (setRow_heap _ _ _ _ 26 _ r6) Tryz.underlying26 rfl (ip4 _ _ _ _) rfl
        · clear d3 d0 d1 d2 r2 l1
          have HKa0 : Hid (P3 q W p.nm (.slice a0 p.b0.length p0) (.slice a1 p.b1.length p1) (.slice (some ⟨g, o, none⟩) (n + 1) (cap + 1)) 1 (.slice a2 ts.length c2) wr ∧ wr.ownsRow (q + 3) 3 1 (.slice none 0 0) 0 []) := ⟨HP3'.out, own_nil0 _ _ _ _⟩
          have HAa : Hid (P3 q W p.nm (.slice a0 p.b0.length p0) (.slice a1 p.b1.length p1) (.slice (some ⟨g, o, none⟩) (n + 1) (cap + 1)) 1 (.slice a2 ts.length c2) (wr.alloc (.cells #[.int .i64 1] 3)) ∧ (wr.alloc (.cells #[.int .i64 1] 3)).ownsRow (q + 3) 3 1 (.slice none 0 0) 0 []) := ⟨HKa0.out.1.below ((Below.refl _ _).alloc (Nat.le_refl _) _), HKa0.out.2.alloc _⟩
          have HAPa : Hid _ := own_app Tryz.underlying22 parts_int rfl (by decide) HAa.out.2 (a := wr.heap.size) (news := [.int .i64 1]) (t' := 3) (fr := (0, 0)) (heap_alloc_new _ _) rfl (fun u hu => by simp at hu; subst hu; rfl) (by decide) (by decide) (by rw [size_alloc]; have := HKa0.out.1.lt; omega)
          go_upto_region 23 with (at_builtin; go_loud (refine wpList_app _ rfl (.tmp 57) (.tmp 58) 22 22 rfl _ _ rfl rfl HAPa.out ?_; rintro v' wa ⟨h1, h2, -⟩; obtain ⟨axa, cxa, rfl⟩ := own_slice' h1; have HKa : Hid (P3 q W p.nm (.slice a0 p.b0.length p0) (.slice a1 p.b1.length p1) (.slice (some ⟨g, o, none⟩) (n + 1) (cap + 1)) 1 (.slice a2 ts.length c2) wa ∧ wa.ownsRow (q + 3) 3 1 (.slice axa 1 cxa) 1 [.int .i64 1]) := ⟨HAa.out.1.grown h2 (fun k hk => (HAa.out.2.lt k hk).1), h1⟩; clear h1 h2))
          have HKb0 : Hid (P3 q W p.nm (.slice a0 p.b0.length p0) (.slice a1 p.b1.length p1) (.slice (some ⟨g, o, none⟩) (n + 1) (cap + 1)) 1 (.slice a2 ts.length c2) wa ∧ wa.ownsRow (q + 3) 3 1 (.slice axa 1 cxa) 1 [.int .i64 1]) := HKa.out
          have HAb : Hid (P3 q W p.nm (.slice a0 p.b0.length p0) (.slice a1 p.b1.length p1) (.slice (some ⟨g, o, none⟩) (n + 1) (cap + 1)) 1 (.slice a2 ts.length c2) (wa.alloc (.cells #[.int .i64 2] 3)) ∧ (wa.alloc (.cells #[.int .i64 2] 3)).ownsRow (q + 3) 3 1 (.slice axa 1 cxa) 1 [.int .i64 1]) := ⟨HKb0.out.1.below ((Below.refl _ _).alloc (Nat.le_refl _) _), HKb0.out.2.alloc _⟩
          have HAPb : Hid _ := own_app Tryz.underlying22 parts_int rfl (by decide) HAb.out.2 (a := wa.heap.size) (news := [.int .i64 2]) (t' := 3) (fr := (0, 0)) (heap_alloc_new _ _) rfl (fun u hu => by simp at hu; subst hu; rfl) (by decide) (by decide) (by rw [size_alloc]; have := HKb0.out.1.lt; omega)
          go_upto_region 25 with (at_builtin; go_loud (refine wpList_app _ rfl (.tmp 62) (.tmp 63) 22 22 rfl _ _ rfl rfl HAPb.out ?_; rintro v' wb ⟨h1, h2, -⟩; obtain ⟨axb, cxb, rfl⟩ := own_slice' h1; have HKb : Hid (P3 q W p.nm (.slice a0 p.b0.length p0) (.slice a1 p.b1.length p1) (.slice (some ⟨g, o, none⟩) (n + 1) (cap + 1)) 1 (.slice a2 ts.length c2) wb ∧ wb.ownsRow (q + 3) 3 1 (.slice axb 2 cxb) 2 [.int .i64 1, .int .i64 2]) := ⟨HAb.out.1.grown h2 (fun k hk => (HAb.out.2.lt k hk).1), h1⟩; clear h1 h2))
          have HK : Hid (P3 q W p.nm (.slice a0 p.b0.length p0) (.slice a1 p.b1.length p1) (.slice (some ⟨g, o, none⟩) (n + 1) (cap + 1)) 1 (.slice a2 ts.length c2) wb ∧ wb.ownsRow (q + 3) 3 1 (.slice axb 2 cxb) 2 [.int .i64 1, .int .i64 2]) := HKb.out
          have zk := HK.out.1.p2.fz 2
          have dk := HK.out.1.p2.c2
          have lk := HK.out.1.l0
          go_upto_region 26 with fail
          have hp5 := HK.out.1.p2.set2 (.slice axb 2 cxb)
          have ho5 := (HK.out.1.p2.sets 2 (.slice axb 2 cxb)).2.2.2
          obtain ⟨W5, hW5⟩ : ∃ W5, wb.setCell ⟨q, 2, none⟩ (.slice axb 2 cxb) = W5 := ⟨_, rfl⟩
          rw [hW5] at hp5 ho5
          simp only [hW5]
          have d3 := hp5.c3
          have f3 := hp5.fz 3
          have HO5 : Hid (∀ b, b ≠ q → W5.heap[b]? = wb.heap[b]?) := ho5
          have HP5 : Hid _ := hp5
          clear hW5 zk dk ho5 hp5 lk
          go_upto_region 27 with fail
          obtain ⟨aL, haL⟩ : ∃ aL, (if cap = 0 then some (⟨g, o, none⟩ : Addr) else some ⟨g, o + 2, none⟩) = aL := ⟨_, rfl⟩
          have haL2 : n = 0 ∨ aL = some ⟨g, o + 2, none⟩ := by
            by_cases hc : cap = 0
            · left; omega
            · right; rw [← haL, if_neg hc]
          simp only [haL]
          have hp6 := HP5.out.set3 (.slice aL n cap)
          have ho6 := (HP5.out.sets 3 (.slice aL n cap)).2.2.2
          obtain ⟨W6, hW6⟩ : ∃ W6, W5.setCell ⟨q, 3, none⟩ (.slice aL n cap) = W6 := ⟨_, rfl⟩
          rw [hW6] at hp6 ho6
          simp only [hW6]
          have HO6 : Hid (∀ b, b ≠ q → W6.heap[b]? = wb.heap[b]?) := fun b hb => (ho6 b hb).trans (HO5.out b hb)
          have HP6 : Hid _ := hp6
          have HAL : Hid _ := haL2
          have e0 := hp6.c0
          have e1 := hp6.c1
          have e2 := hp6.c2
          have e3 := hp6.c3
          have r6 := hp6.row2
          clear hW6 d3 f3 ho6 hp6 haL2 haL
          go_wp2_with (with_reducible refine at_list ?_; refine wpList_store_row rfl 26 (.tmp 2) (.tmp 74) rfl (q + 1) #[.string p.nm, .slice a0 p.b0.length p0, .slice axb 2 cxb, .slice aL n cap] rfl rfl 26 zPat r6 (ip4 _ _ _ _) rfl (by simp [Value.oneCell']) ?_)
          have hb9 := below_setRow HP6.out.old (q + 1) (by omega) #[.string p.nm, .slice a0 p.b0.length p0, .slice axb 2 cxb, .slice aL n cap]
          have ho9 : (W6.setRow (q + 1) #[.string p.nm, .slice a0 p.b0.length p0, .slice axb 2 cxb, .slice aL n cap]).ownsRow (q + 3) 3 1 (.slice axb 2 cxb) ([1, 2] : List Int).length (([1, 2] : List Int).map (Value.int .i64)) := own_keep HK.out.2 (fun k hk => by
            have := (HK.out.2.lt k hk).1
            rw [setRow_other _ _ _ _ (by omega)]
            exact HO6.out k (by omega))
          try simp only [Exit.inBlock, Exit.then]
          refine bodyPost_ret (v := .tuple #[.agg #[.string p.nm, .slice a0 p.b0.length p0, .slice axb 2 cxb, .slice aL n cap], .bool true]) ?_ rfl ⟨hb9, .inr ⟨.slice axb 2 cxb, 1, [1, 2], aL, g, o, n, cap, rfl, ho9, HAL.out, by decide, .inr ⟨rfl, by rw [HBC.out]; rfl, rfl⟩⟩⟩
          exact results_row_tmp (P := Tryz.prog) (fn := Tryz.f39) (p := 2) (u := 3) (ty := 26) rfl _ _ (q + 1) 26 _ (0, 0) _ _ rfl (setRow_heap _ _ _ _ 26 _ r6) Tryz.underlying26 rfl (ip4 _ _ _ _) rfl
end Go.Proofs.YtchnkpgkckadmaaGreatDoor
