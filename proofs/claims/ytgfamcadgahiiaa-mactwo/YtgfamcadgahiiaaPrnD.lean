import Derived.Test.YtgfamcadgahiiaaPrnC
namespace Go.Proofs.Ytgfamcadgahiiaa
set_option linter.unusedSimpArgs false
open Go.ChangeShapes Go.WideShapes Go.ChangeAt Go.RowKit Go.Pin Go.Prm
theorem Own.cell {B : Nat} {w : World} {g n cap : Nat} {l : List Int} (h : Own B w (.slice (some ⟨g, 0, none⟩) n cap) l) {j : Nat} (hj : j < l.length) : w.cell? ⟨g, j, none⟩ = some (.int .i64 (l.getD j 0)) := by
  have := World.ownsRow.cells h (g := g) rfl j (.int .i64 (l.getD j 0)) (by rw [List.getElem?_map, List.getElem?_eq_getElem hj, List.getD_eq_getElem?_getD, List.getElem?_eq_getElem hj]; rfl)
  rwa [add_mid, Nat.zero_add] at this
theorem Own.shape {B : Nat} {w : World} {v : Value} {l : List Int} (h : Own B w v l) (h0 : 0 < l.length) : ∃ g cap, v = .slice (some ⟨g, 0, none⟩) l.length cap ∧ l.length ≤ cap ∧ B ≤ g ∧ g < w.heap.size := by
  rcases h.2 with ⟨_, e⟩ | ⟨g, cap, cur, rfl, hb, hg, hnc, _⟩
  · omega
  · exact ⟨g, cap, rfl, hnc, hb, heap_lt hg⟩
theorem Own.frozen {B : Nat} {w : World} {g n cap : Nat} {l : List Int} (h : Own B w (.slice (some ⟨g, 0, none⟩) n cap) l) (j : Nat) : w.frozen? ⟨g, j, none⟩ = false := by
  rcases h.2 with ⟨e, _⟩ | ⟨g', cap', cur, e, hb, hg, hnc, _⟩
  · simp at e
  · injection e with e1 e2 e3
    injection e1 with e1
    injection e1 with e1
    subst e1
    exact frozen_of_row w _ _ _ _ hg
theorem Own.set {B : Nat} {w : World} {g cap : Nat} {l : List Int} (h : Own B w (.slice (some ⟨g, 0, none⟩) l.length cap) l) (j : Nat) (x : Int) : Own B (w.setCell ⟨g, j, none⟩ (.int .i64 x)) (.slice (some ⟨g, 0, none⟩) l.length cap) (l.set j x) := by
  have := (World.ownsRow.stored h j (.int .i64 x)).1
  unfold Own ints
  rw [List.length_set, List.map_set]
  exact this
/-- the length of a slice -/
def slen : Value → Nat
  | .slice _ n _ => n
  | _ => 0
theorem own_zeros (w : World) (n : Nat) (hn : n ≤ 1000) : Own w.heap.size (w.alloc (.cells (VI .i64 (List.replicate n 0)) 3)) (.slice (some ⟨w.heap.size, 0, none⟩) n n) (List.replicate n 0) := by
  refine ⟨by simp [ints], .inr ⟨w.heap.size, n, VI .i64 (List.replicate n 0), by simp, Nat.le_refl _, by rw [heap_alloc_any, if_pos rfl], by simp, ?_, by simp, ?_⟩⟩
  · unfold maxLen; omega
  · simp [ints, VI]
set_option maxRecDepth 100000 in
theorem mk_n (n : Nat) (hn : n ≤ 1000) (w : World) : (Instr.makeSlice 55 (.int .i64 (n : Int)) (.int .i64 (n : Int))).run Try.prog w = .ok (.slice (some ⟨w.heap.size, 0, none⟩) n n) (w.alloc (.cells (VI .i64 (List.replicate n 0)) 3)) := by
  obtain ⟨i0, hi, hz0, hz1, hz2⟩ := info_parts info_int
  have := run_makeSlice (P := Try.prog) w 55 3 i0 (.int .i64 0) Try.underlying55 hi hz0 .i64 .i64 (n : Int) (n : Int) (by omega) (Int.le_refl _) (by rw [hz1]; omega) (by rw [hz2]; omega) (by omega)
  rw [this, hz1, Int.toNat_natCast]
  congr 3
  apply Array.ext'
  simp [madeCells, Value.cells, VI]
  refine List.eq_replicate_iff.2 ⟨by simp, ?_⟩
  simp
  intro a _
  rw [Nat.mod_one]
  rfl
theorem mk17 (w : World) : (Instr.makeSlice 55 (.int .i64 17) (.int .i64 17)).run Try.prog w = .ok (.slice (some ⟨w.heap.size, 0, none⟩) 17 17) (w.alloc (.cells (VI .i64 (List.replicate 17 0)) 3)) := mk_n 17 (by decide) w
set_option maxRecDepth 100000 in
set_option maxHeartbeats 8000000 in
theorem fold_any (v : Value) (d : List Int) (w : World) (h : Rd w v d) (hl : d.length ≤ 50) (hb : ∀ x ∈ d, 0 ≤ x ∧ x < 256) :
    Calls Try.prog 65 #[v] w fun e w' => (∃ v' d', e = .returned (.tuple #[v', .bool (decide (1361129467683753853853498429727072845824 ≤ VB d))]) ∧ Own w.heap.size w' v' d' ∧ (∀ x ∈ d', 0 ≤ x ∧ x < 256) ∧ VB d' = VB d % 1361129467683753853853498429727072845824 + 5 * (VB d / 1361129467683753853853498429727072845824) ∧ d'.length ≤ max 17 (d.length - 16) + 5) ∧ Below w.heap.size w w' := by
  obtain ⟨i0, hi, hz0, hz1, hz2⟩ := info_parts info_int
  have HI : Hid _ := And.intro hi (And.intro hz0 (And.intro hz1 hz2))
  have HDG : Hid (∀ W i, Below w.heap.size w W → Calls Try.prog 66 #[v, .int .i64 ((i : Nat) : Int)] W fun e w' => e = .returned (.int .i64 (d.getD i 0)) ∧ w' = W) := fun W i hW => digit_any v d i W (h.below hW) (by omega)
  have HB : Hid (∀ x ∈ d, 0 ≤ x ∧ x < 256) := hb
  have HBD : Hid (∀ i, 0 ≤ d.getD i 0 ∧ d.getD i 0 < 256) := byte_at hb
  obtain ⟨a, c, rfl, hc, _⟩ := h
  clear hi hz0 hz1 hz2 hb
  have hO := own_zeros w 17 (by decide)
  have hBz : Below w.heap.size w (w.alloc (.cells (VI .i64 (List.replicate 17 0)) 3)) := (Below.refl _ _).alloc (Nat.le_refl _) _
  obtain ⟨W0, hW0⟩ : ∃ W, w.alloc (.cells (VI .i64 (List.replicate 17 0)) 3) = W := ⟨_, rfl⟩
  have hW0'' := hW0
  rw [hW0] at hO hBz
  have HO : Hid (Own w.heap.size W0 (.slice (some ⟨w.heap.size, 0, none⟩) 17 17) (List.replicate 17 0)) := hO
  have HBZ : Hid (Below w.heap.size w W0) := hBz
  clear hO hBz hW0
  have hmk := mk17 w
  rw [hW0''] at hmk
  clear hW0''
  go_enter Try.func65, Try.ntmps65
  go_wp2
  go_loopw [5] (fun i w' => ∃ k : Nat, k ≤ 16 ∧ i = .int .i64 k ∧ Own w.heap.size w' (.slice (some ⟨w.heap.size, 0, none⟩) 17 17) ((dg1 d 17).take k ++ (List.replicate 17 (0 : Int)).drop k) ∧ Below w.heap.size w w') (fun i _ => 16 - (intOf i).toNat)
  case atStart => exact ⟨0, Nat.zero_le _, rfl, HO.out, HBZ.out⟩
  case round =>
    clear HO HBZ
    obtain ⟨k, hk, rfl, hown, hbel⟩ := hrel
    have HBL : Hid (Below w.heap.size w wr) := hbel
    have hll : ((dg1 d 17).take k ++ (List.replicate 17 (0 : Int)).drop k).length = 17 := by simp; omega
    by_cases hlt : k < 16
    · have hcell := Own.cell hown (j := k) (by omega)
      have hfz := Own.frozen hown k
      have hst := Own.set (by rw [hll]; exact hown) k ((dg1 d 17)[k]'(by simp; omega))
      rw [set_step _ _ _ (by simp; omega) (by simp; omega), dg1_at _ _ _ (by omega), hll] at hst
      have HST : Hid (Own w.heap.size (wr.setCell ⟨w.heap.size, k, none⟩ (.int .i64 (d.getD k 0))) (.slice (some ⟨w.heap.size, 0, none⟩) 17 17) ((dg1 d 17).take (k + 1) ++ (List.replicate 17 (0 : Int)).drop (k + 1))) := hst
      have HC : Hid (Calls Try.prog 66 #[.slice a d.length c, .int .i64 (k : Int)] wr fun e w' => e = .returned (.int .i64 (d.getD k 0)) ∧ w' = wr) := HDG.out wr k hbel
      clear hown hbel hll hst
      generalize d.getD k 0 = x at *
      generalize List.getD _ k 0 = z at hcell
      go_wp2_with (go_at_call 66; refine HC.out.mono ?_; rintro e w2 ⟨rfl, rfl⟩)
      go_roundw
      case rel => exact ⟨k + 1, by omega, by go_num, HST.out, HBL.out.setCell (Nat.le_refl _) _⟩
      case measure => simp [intOf]; omega
    · have hk' : k = 16 := by omega
      subst hk'
      have hcell := Own.cell hown (j := 16) (by omega)
      have hfz := Own.frozen hown 16
      have hst := Own.set (by rw [hll]; exact hown) 16 (d.getD 16 0 % 4)
      have e0 : ((dg1 d 17).take 16 ++ (List.replicate 17 (0 : Int)).drop 16).set 16 (d.getD 16 0 % 4) = dg1 d 16 ++ [d.getD 16 0 % 4] := rfl
      rw [e0, hll] at hst
      obtain ⟨f1, f2⟩ := fold_VB HB.out
      obtain ⟨L0, hL0⟩ : ∃ L0, dg1 d 16 ++ [d.getD 16 0 % 4] = L0 := ⟨_, rfl⟩
      have hf0 : Fdk L0 (d.drop 16) L0 0 := by
        rw [← hL0]
        have hb16 := HBD.out 16
        have hmem : ∀ x ∈ dg1 d 16 ++ [d.getD 16 0 % 4], 0 ≤ x ∧ x < 256 := fun x hx => by
          rcases List.mem_append.1 hx with hx | hx
          · simp only [dg1, List.mem_map] at hx
            obtain ⟨i, _, rfl⟩ := hx
            exact HBD.out i
          · rw [List.mem_singleton.1 hx]; omega
        exact ⟨by simp, fun x hx => by have := hmem x hx; omega, fun j _ => (byte_at hmem j).2, by simp [VB]⟩
      rw [hL0] at hst f1
      have HST : Hid (Own w.heap.size (wr.setCell ⟨w.heap.size, 16, none⟩ (.int .i64 (d.getD 16 0 % 4))) (.slice (some ⟨w.heap.size, 0, none⟩) 17 17) L0) := hst
      have HL17 : Hid (L0.length = 17) := by rw [← hL0]; simp [Hid]
      have HF : Hid (Fdk L0 (d.drop 16) L0 0) := hf0
      have H1 : Hid (VB L0 = VB d % 1361129467683753853853498429727072845824) := f1
      have H2 : Hid (VB (hs (d.drop 16)) = VB d / 1361129467683753853853498429727072845824) := f2
      have HC : Hid (Calls Try.prog 66 #[.slice a d.length c, .int .i64 16] wr fun e w' => e = .returned (.int .i64 (d.getD 16 0)) ∧ w' = wr) := HDG.out wr 16 hbel
      have HT : Hid (∀ x ∈ d.drop 16, 0 ≤ x ∧ x < 256) := fun x hx => HB.out x (List.mem_of_mem_drop hx)
      have b16 := HBD.out 16
      clear hown hbel hll hst e0 f1 f2 hf0 hL0 hlt hk
      generalize d.getD 16 0 = x16 at *
      generalize List.getD _ 16 0 = z at hcell
      obtain ⟨p16, q16⟩ := b16
      rw [show ((16 : Nat) : Int) = 16 from rfl]
      go_wp2_with (go_at_call 66; refine HC.out.mono ?_; rintro e w2 ⟨rfl, rfl⟩)
      go_loopw [4, 6, 7] (fun lv an i w' => ∃ (k : Nat) (L : List Int), i = .int .i64 ((16 + k : Nat) : Int) ∧ k ≤ (d.drop 16).length ∧ an = .bool (decide (0 < VB ((hs (d.drop 16)).take k))) ∧ Fdk L0 (d.drop 16) L k ∧ Own w.heap.size w' lv L ∧ Below w.heap.size w w') (fun _ _ i _ => d.length - (intOf i).toNat)
      case atStart =>
        refine ⟨0, L0, rfl, Nat.zero_le _, by simp [VB], HF.out, ?_, HBL.out.setCell (Nat.le_refl _) _⟩
        have := HST.out
        exact this
      case round =>
        clear HF HST HC hcell hfz p16 q16 HBL
        obtain ⟨k, L, rfl, hkt, rfl, hF, hown, hbel⟩ := hrel
        have hdl : (d.drop 16).length = d.length - 16 := by simp
        have HF : Hid (Fdk L0 (d.drop 16) L k) := hF
        have HO : Hid (Own w.heap.size wr u4 L) := hown
        have HBL : Hid (Below w.heap.size w wr) := hbel
        have hLl := hF.len
        by_cases hlt : 16 + k < d.length
        · have hkl : k < (d.drop 16).length := by omega
          have hg := hs_get (d.drop 16) k hkl
          rw [getD_drop, getD_drop, show 16 + (k + 1) = 16 + k + 1 by omega] at hg
          obtain ⟨x0, x1⟩ := HBD.out (16 + k)
          obtain ⟨y0, y1⟩ := HBD.out (16 + k + 1)
          have HC1 : Hid (Calls Try.prog 66 #[.slice a d.length c, .int .i64 ((16 + k : Nat) : Int)] wr fun e w' => e = .returned (.int .i64 (d.getD (16 + k) 0)) ∧ w' = wr) := HDG.out wr (16 + k) hbel
          have HC2 : Hid (Calls Try.prog 66 #[.slice a d.length c, .int .i64 ((16 + k + 1 : Nat) : Int)] wr fun e w' => e = .returned (.int .i64 (d.getD (16 + k + 1) 0)) ∧ w' = wr) := HDG.out wr (16 + k + 1) hbel
          have HAN : Hid (decide (0 < VB ((hs (d.drop 16)).take (k + 1))) = (decide (0 < VB ((hs (d.drop 16)).take k)) || decide (0 < (hs (d.drop 16)).getD k 0))) := any_step HT.out k hkl
          obtain ⟨hh, hhe⟩ : ∃ hh, (hs (d.drop 16)).getD k 0 = hh := ⟨_, rfl⟩
          rw [hhe] at hg HAN
          have HHE : Hid ((hs (d.drop 16)).getD k 0 = hh) := hhe
          obtain ⟨m, hm⟩ : ∃ m : Nat, m = 16 + k := ⟨_, rfl⟩
          rw [← hm] at hlt hg x0 x1 y0 y1 HC1 HC2 ⊢
          have hm16 : (m : Int) - 16 = (k : Int) := by omega
          have hmk : 16 ≤ m := by omega
          have HM : Hid (m = 16 + k) := hm
          have hg' := hg.symm
          clear hm hg
          generalize d.getD m 0 = dx at *
          generalize d.getD (m + 1) 0 = dy at *
          generalize decide (0 < VB ((hs (d.drop 16)).take k)) = ab at *
          have HC2' : Hid (Calls Try.prog 66 #[.slice a d.length c, .int .i64 ((m : Int) + 1)] wr fun e w' => e = .returned (.int .i64 dy) ∧ w' = wr) := HC2.out
          have HLL : Hid (L.length = max 17 k) := hLl
          have HKL : Hid (k < (d.drop 16).length) := hkl
          clear hown hbel hF hhe hdl hLl hkl hkt
          go_upto_region 11 with fail
          go_wp2_with (go_at_call 66; first | (with_reducible refine HC1.out.mono ?_; rintro e w2 ⟨rfl, rfl⟩) | (with_reducible refine HC2'.out.mono ?_; rintro e w2 ⟨rfl, rfl⟩))
          go_loopw [4] (fun lv w' => ∃ p : Nat, (L ++ List.replicate p 0).length ≤ max 17 (k + 1) ∧ Own w.heap.size w' lv (L ++ List.replicate p 0) ∧ Below w.heap.size w w') (fun lv _ => 200 - slen lv)
          case atStart => exact ⟨0, by have := HLL.out; simp; omega, by simpa using HO.out, HBL.out⟩
          case round =>
            obtain ⟨p, hpl, hown, hbel⟩ := hrel
            have HO2 : Hid (Own w.heap.size wr u4 (L ++ List.replicate p 0)) := hown
            have HBL2 : Hid (Below w.heap.size w wr) := hbel
            have hLl := HLL.out
            have hk50 : k < 50 := by have := HM.out; omega
            have hpos : 0 < (L ++ List.replicate p (0 : Int)).length := by simp; omega
            obtain ⟨g, cap, rfl, hcap, hg0, hg1⟩ := hown.shape hpos
            have HPL : Hid ((L ++ List.replicate p (0 : Int)).length ≤ max 17 (k + 1)) := hpl
            obtain ⟨n, hn⟩ : ∃ n, (L ++ List.replicate p (0 : Int)).length = n := ⟨_, rfl⟩
            have HN : Hid ((L ++ List.replicate p (0 : Int)).length = n) := hn
            rw [hn] at hcap hpl hpos HO2 ⊢
            have hn51 : n ≤ 51 := by omega
            clear hown hbel hn hpl HLL
            by_cases hle : n ≤ k
            · have hle' : (n : Int) ≤ (k : Int) := by omega
              go_wp2_with (first | (at_builtin; refine wpList_append_own_at _ rfl _ _ 55 rfl w.heap.size 3 i0 (.int .i64 0) 1 8 Try.underlying55 HI.out.1 HI.out.2.1 HI.out.2.2.1 HI.out.2.2.2 rfl (by decide) _ n (ints (L ++ List.replicate p 0)) rfl (World.ownsRow.alloc (by have := HO2.out; unfold Own at this; rw [HN.out] at this; exact this) _) ⟨wr.heap.size, 0, none⟩ 1 1 [.int .i64 0] rfl rfl ?_ ?_ ?_ ?_ ?_ ?_))
              · intro j u hj
                match j, hj with
                | 0, hj => simp at hj; subst hj; simp [Addr.add]
              · intro u hu
                simp at hu
                rcases hu with rfl; rfl
              · unfold maxLen; omega
              · omega
              · have := HBL2.out.size
                simp; omega
              · intro v' w1 hown' hgrow hnn hat
                have HO' : Hid (Own w.heap.size w1 v' (L ++ List.replicate (p + 1) 0)) := by
                  have h1 : Own w.heap.size w1 v' ((L ++ List.replicate p 0) ++ [0]) := own_app (by rw [HN.out]; simpa [ints] using hown')
                  rw [List.append_assoc, ← List.replicate_succ'] at h1
                  exact h1
                have hsl : slen v' = n + 1 := by
                  obtain ⟨g', cap', e, _⟩ := HO'.out.shape (by simp; omega)
                  rw [e, slen, List.length_append, List.length_replicate]
                  have := HN.out
                  rw [List.length_append, List.length_replicate] at this
                  omega
                have HSL : Hid (slen v' = n + 1) := hsl
                have HBL' : Hid (Below w.heap.size w w1) := Below.grown (HBL2.out.alloc HBL2.out.size _) hgrow (fun k hk => (World.ownsRow.lt HO2.out k hk).1) (by have := HBL2.out.size; simp; omega)
                clear hown' hgrow hnn hat hsl
                go_wp2
                go_roundw
                case rel =>
                  refine ⟨p + 1, ?_, HO'.out, HBL'.out⟩
                  have := HN.out
                  rw [List.length_append, List.length_replicate] at this ⊢
                  omega
                case measure =>
                  have := HSL.out
                  simp only [List.getElem?_toArray, List.getElem?_cons_succ, List.getElem?_cons_zero, Option.getD_some, Array.getD_eq_getD_getElem?, this]
                  simp only [slen]
                  omega
            · have hgt : ¬ ((n : Int) ≤ (k : Int)) := by omega
              have hkn : k < n := by omega
              have hown2 : Own w.heap.size wr (.slice (some ⟨g, 0, none⟩) (L ++ List.replicate p (0 : Int)).length cap) (L ++ List.replicate p 0) := by rw [HN.out]; exact HO2.out
              have hcell := Own.cell hown2 (j := k) (by rw [HN.out]; exact hkn)
              have hfz := Own.frozen hown2 k
              have hnm : n = max 17 (k + 1) := by
                have h1 := HPL.out
                have h2 := HN.out
                rw [HN.out] at h1
                rw [List.length_append, List.length_replicate] at h2
                omega
              have hpad := HF.out.pad HT.out HKL.out p (by rw [HN.out]; exact hnm)
              rw [HHE.out] at hpad
              have hset := hown2.set k ((L ++ List.replicate p (0 : Int)).getD k 0 + 5 * hh)
              rw [HN.out] at hset
              have hx : 0 ≤ (L ++ List.replicate p (0 : Int)).getD k 0 ∧ (L ++ List.replicate p (0 : Int)).getD k 0 < 2000 := by
                have hlt2 : k < (L ++ List.replicate p (0 : Int)).length := by rw [HN.out]; exact hkn
                rw [List.getD_eq_getElem?_getD, List.getElem?_eq_getElem hlt2, Option.getD_some]
                rcases List.mem_append.1 (List.getElem_mem hlt2) with hm | hm
                · exact HF.out.bd _ hm
                · rw [(List.mem_replicate.1 hm).2]; omega
              obtain ⟨x, hxe⟩ : ∃ x, (L ++ List.replicate p (0 : Int)).getD k 0 = x := ⟨_, rfl⟩
              rw [hxe] at hcell hpad hset hx
              have HPD : Hid (Fdk L0 (d.drop 16) ((L ++ List.replicate p 0).set k (x + 5 * hh)) (k + 1)) := hpad
              have HSET : Hid (Own w.heap.size (wr.setCell ⟨g, k, none⟩ (.int .i64 (x + 5 * hh))) (.slice (some ⟨g, 0, none⟩) n cap) ((L ++ List.replicate p 0).set k (x + 5 * hh))) := hset
              obtain ⟨q0, q1⟩ := hx
              have hh0 : 0 ≤ hh := by omega
              have hh1 : hh < 256 := by omega
              clear hown2 hnm hpad hset hxe
              cases ab
              · go_wp2
                go_roundw
                case rel =>
                  refine ⟨k + 1, _, ?_, ?_, ?_, HPD.out, HSET.out, HBL2.out.setCell hg0 _⟩
                  · have := HM.out; go_num
                  · have := HKL.out; omega
                  · rw [HAN.out]; rfl
                case measure => simp [intOf]; omega
              · go_wp2
                go_roundw
                case rel =>
                  refine ⟨k + 1, _, ?_, ?_, ?_, HPD.out, HSET.out, HBL2.out.setCell hg0 _⟩
                  · have := HM.out; go_num
                  · have := HKL.out; omega
                  · rw [HAN.out]; rfl
                case measure => simp [intOf]; omega
        · have hke : k = (d.drop 16).length ∨ d.length ≤ 16 := by omega
          have hkk : (hs (d.drop 16)).take k = hs (d.drop 16) := List.take_of_length_le (by rw [hs_len]; omega)
          have hval := hF.val
          rw [hkk, H1.out, H2.out] at hval
          have hcf := crd_facts (d := L) (fun x hx => by have := hF.bd x hx; omega)
          have HCAR : Hid (Calls Try.prog 64 #[u4] wr fun e w' => (∃ v', e = .returned v' ∧ Own wr.heap.size w' v' (crd L)) ∧ Below wr.heap.size wr w') := carried_any u4 L wr hown.rd (by omega) (fun x hx => by have := hF.bd x hx; omega)
          have HV : Hid (VB (crd L) = VB d % 1361129467683753853853498429727072845824 + 5 * (VB d / 1361129467683753853853498429727072845824)) := hcf.1.trans hval
          have HBY : Hid (∀ x ∈ crd L, 0 ≤ x ∧ x < 256) := hcf.2.1
          have HLN : Hid ((crd L).length ≤ max 17 (d.length - 16) + 5) := by have := hcf.2.2.1; show _ ≤ _; omega
          have HAB : Hid (decide (0 < VB ((hs (d.drop 16)).take k)) = decide (1361129467683753853853498429727072845824 ≤ VB d)) := by
            rw [hkk, H2.out]
            show decide _ = decide _
            congr 1
            exact propext (by omega)
          generalize decide (0 < VB ((hs (d.drop 16)).take k)) = ab at *
          obtain ⟨m, hm⟩ : ∃ m : Nat, m = 16 + k := ⟨_, rfl⟩
          rw [← hm] at hlt ⊢
          clear hown hbel hF hval hcf hkk hke hdl hLl hkt hm
          go_wp2_with (go_at_call 64; refine HCAR.out.mono ?_; rintro e w2 ⟨⟨v', rfl, hO'⟩, hb2⟩)
          go_ret2
          refine ⟨⟨v', crd L, by rw [← HAB.out]; rfl, ?_, HBY.out, HV.out, HLN.out⟩, HBL.out.trans (hb2.mono HBL.out.size)⟩
          exact owns_mono HBL.out.size hO'
end Go.Proofs.Ytgfamcadgahiiaa
