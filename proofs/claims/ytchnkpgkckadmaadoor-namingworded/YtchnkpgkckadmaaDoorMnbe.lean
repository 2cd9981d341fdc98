import Derived.Test.YtchnkpgkckadmaaDoorMnbc
import Derived.Test.YtchnkpgkckadmaaDoorMnbd
namespace Go.Proofs.YtchnkpgkckadmaaDoor
set_option linter.unusedSimpArgs false
set_option linter.unusedVariables false
set_option maxRecDepth 100000
open Go.ChangeShapes Go.WideShapes Go.ChangeAt Go.RowKit Go.Pin Go.Pat Go.Deep
theorem wd_of {x : ByteArray} (h0 : x.size ≠ 0) (hd : dgB (byt x 0) = false) (h : ∀ j, j < x.size → loB (byt x j) = true) : WdL (toL x) := by
  refine bad_wd (fun c hc => ?_) ?_
  · obtain ⟨j, hj, rfl⟩ := List.getElem_of_mem hc
    have := h j (by rw [toL_len] at hj; exact hj)
    rw [bytD, Go.Pat.getD_at _ _ hj] at this
    exact this
  · cases e : badW (toL x) with
    | false => rfl
    | true =>
      rcases (bad_byt x).2 e with h1 | h1
      · exact absurd h1 h0
      · rw [h1] at hd; cases hd
theorem cat3_toL (f : ByteArray) : toL (hdN ++ f ++ ⟨#[43]⟩ ++ tlN) = toL hdN ++ (toL f ++ 43 :: toL tlN) := by
  rw [toL_app, toL_app, toL_app]
  simp [toL]
theorem nmN_step (b : ByteArray) (ws : List ByteArray) (i : Nat) : nmN b ws (i + 1) = (if i = 0 then nmN b ws i else nmN b ws i ++ ⟨#[43]⟩) ++ ws.getD i ⟨#[]⟩ := rfl
theorem nmN_size (b : ByteArray) (ws : List ByteArray) : ∀ i, i ≤ ws.length → (∀ w ∈ ws, w.size ≤ 20) → (nmN b ws i).size ≤ b.size + 21 * i
  | 0, _, _ => by simp [nmN]
  | i + 1, hi, h => by
    have ih := nmN_size b ws i (by omega) h
    have hx : (ws.getD i ⟨#[]⟩).size ≤ 20 := by
      rw [show ws.getD i ⟨#[]⟩ = ws[i] by simp [List.getD, (by omega : i < ws.length)]]
      exact h _ (List.getElem_mem _)
    rw [nmN_step, ByteArray.size_append]
    split
    · omega
    · rw [ByteArray.size_append]
      have : (⟨#[43]⟩ : ByteArray).size = 1 := rfl
      omega
set_option maxHeartbeats 16000000 in
theorem worded16_walk {ea : Int → Addr} (b : ByteArray) (wv : Value) (ws : List ByteArray) (W : World) (hE : Errs ea W) (hbz : b.size ≤ 140737488355328) (hw : RdS W wv ws) (hwz : ∀ x ∈ ws, x.size ≤ 140737488355328) (hcap : ∀ a n c, wv = .slice a n c → n ≤ c) :
    Calls Tryd.prog 5 #[.string b, wv] W fun e w' => e = .returned (.bool true) ∧ Below W.heap.size W w' := by
  obtain ⟨aw, cw, rfl, hcell⟩ := id hw
  have CW := awake_any W hE
  obtain ⟨q, hq⟩ : ∃ q, W.heap.size = q := ⟨_, rfl⟩
  have HQ : Hid (W.heap.size = q) := hq
  rw [hq] at CW ⊢
  obtain ⟨m, hm⟩ : ∃ m, b.size = m := ⟨_, rfl⟩
  obtain ⟨n, hn⟩ : ∃ n, ws.length = n := ⟨_, rfl⟩
  have HNN : Hid (ws.length = n ∧ b.size = m) := ⟨hn, hm⟩
  have HCL : Hid _ := hcell
  have HE : Hid (∀ Y, Below q W Y → Errs ea Y) := fun Y hY => hE.below (by rw [hq]; exact hY)
  have HW : Hid (∀ Y, Below q W Y → RdS Y (.slice aw n cw) ws) := fun Y hY => by rw [← hn]; exact hw.below (by rw [hq]; exact hY)
  have HCP : Hid (n ≤ cw) := hcap _ _ _ (by rw [hn])
  have HWZ : Hid (∀ x ∈ ws, x.size ≤ 140737488355328) := hwz
  rw [hn] at HCL ⊢
  clear hE hw hcell hcap hwz hbz hn
  by_cases hz1 : 20 < m
  · have t0 : (m : Int) > 20 := by omega
    have t1 : (20 : Int) < (m : Int) := by omega
    clear hz1
    go_enter Tryd.func5, Tryd.ntmps5
    go_wp2_with (go_at_call 6; refine CW.mono ?_; rintro e w6 ⟨rfl, hb⟩; have H6 : Hid (Below q W w6) := hb; clear hb CW)
    go_ret
    exact ⟨rfl, H6.out⟩
  have t0 : ¬ (m : Int) > 20 := by omega
  have t1 : ¬ (20 : Int) < (m : Int) := by omega
  by_cases hz2 : 20 < n
  · have t2 : (n : Int) > 20 := by omega
    have t3 : (20 : Int) < (n : Int) := by omega
    clear hz1 hz2
    go_enter Tryd.func5, Tryd.ntmps5
    go_wp2_with (go_at_call 6; refine CW.mono ?_; rintro e w6 ⟨rfl, hb⟩; have H6 : Hid (Below q W w6) := hb; clear hb CW)
    go_ret
    exact ⟨rfl, H6.out⟩
  have t2 : ¬ (n : Int) > 20 := by omega
  have t3 : ¬ (20 : Int) < (n : Int) := by omega
  by_cases hz3 : n = 0
  · have t4 : ((n : Int) == 0) = true := by rw [hz3]; rfl
    have t5 : decide ((n : Int) = 0) = true := by rw [hz3]; rfl
    clear hz1 hz2 hz3
    go_enter Tryd.func5, Tryd.ntmps5
    go_wp2_with (go_at_call 6; refine CW.mono ?_; rintro e w6 ⟨rfl, hb⟩; have H6 : Hid (Below q W w6) := hb; clear hb CW)
    go_ret
    exact ⟨rfl, H6.out⟩
  have hz4 : ¬ (n : Int) = 0 := by omega
  have t4 : ((n : Int) == 0) = false := by simpa using hz4
  have t5 : decide ((n : Int) = 0) = false := by simpa using hz4
  have HZ : Hid (m ≤ 20 ∧ n ≤ 20 ∧ n ≠ 0) := ⟨by omega, by omega, hz3⟩
  have bn : (n : Int) ≤ 20 := by omega
  have bm : (m : Int) ≤ 20 := by omega
  clear hz1 hz2 hz3 hz4
  go_enter Tryd.func5, Tryd.ntmps5
  go_upto_region 5 with (fail)
  clear t0 t1 t2 t3 t4 t5
  go_loopw [5, 6] (fun v5 v6 wr => ∃ i : Nat, i ≤ n ∧ v6 = .int .i64 i ∧ v5 = .string (nmN b ws i) ∧ (nmN b ws i).size ≤ 20 + 21 * i ∧ (∀ j, j < i → WdL (toL (ws.getD j ⟨#[]⟩)) ∧ (ws.getD j ⟨#[]⟩).size ≤ 20) ∧ wr = W) (fun _ v _ => n - (intOf v).toNat)
  case atStart => exact ⟨0, Nat.zero_le _, rfl, rfl, by have := HZ.out; have := HNN.out; show b.size ≤ _; omega, fun j hj => absurd hj (Nat.not_lt_zero _), rfl⟩
  case round =>
    obtain ⟨i, hi, rfl, rfl, hgs, hwd, hwr⟩ := hrel
    obtain rfl : W = wr := hwr.symm
    by_cases hlt : i < n
    · have b1 : (i : Int) < (n : Int) := by omega
      have b0 : (0 : Int) ≤ (i : Int) := by omega
      obtain ⟨ab, ao, haw, hc⟩ := HCL.out i hlt
      subst haw
      obtain ⟨x, hx⟩ : ∃ x, ws.getD i ⟨#[]⟩ = x := ⟨_, rfl⟩
      rw [hx] at hc
      have HX : Hid (ws.getD i ⟨#[]⟩ = x) := hx
      have HI : Hid (i < n ∧ ∀ j, j < i → WdL (toL (ws.getD j ⟨#[]⟩)) ∧ (ws.getD j ⟨#[]⟩).size ≤ 20) := ⟨hlt, hwd⟩
      obtain ⟨s, hs⟩ : ∃ s, x.size = s := ⟨_, rfl⟩
      clear hlt hi hwd hx
      by_cases k1 : 20 < s
      · have t0 : (s : Int) > 20 := by omega
        have t1 : (20 : Int) < (s : Int) := by omega
        clear k1
        go_wp2_with (go_at_call 6; refine CW.mono ?_; rintro e w6 ⟨rfl, hb⟩; have H6 : Hid (Below q W w6) := hb; clear hb CW)
        go_ret
        exact ⟨rfl, H6.out⟩
      have t0 : ¬ (s : Int) > 20 := by omega
      have t1 : ¬ (20 : Int) < (s : Int) := by omega
      by_cases k2 : s = 0
      · have t2 : ((s : Int) == 0) = true := by rw [k2]; rfl
        have t3 : decide ((s : Int) = 0) = true := by rw [k2]; rfl
        clear k1 k2
        go_wp2_with (go_at_call 6; refine CW.mono ?_; rintro e w6 ⟨rfl, hb⟩; have H6 : Hid (Below q W w6) := hb; clear hb CW)
        go_ret
        exact ⟨rfl, H6.out⟩
      have k3 : ¬ (s : Int) = 0 := by omega
      have t2 : ((s : Int) == 0) = false := by simpa using k3
      have t3 : decide ((s : Int) = 0) = false := by simpa using k3
      have hx0 : 0 < x.size := by omega
      have hg0 := byt_at x 0 hx0
      have bs : (0 : Int) < (s : Int) := by omega
      have bx : (0 : Int) < (x.size : Int) := by omega
      by_cases k4 : dgB (byt x 0) = true
      · have hdd : 48 ≤ x[0].toNat ∧ x[0].toNat ≤ 57 := by rw [hg0] at k4; unfold dgB at k4; simpa using k4
        have p1 : (x[0].toNat : Int) ≥ 48 := by omega
        have p2 : (48 : Int) ≤ (x[0].toNat : Int) := by omega
        have p3 : (x[0].toNat : Int) ≤ 57 := by omega
        clear hdd k4 k1 k2 k3 hg0
        go_wp2_with (go_at_call 6; refine CW.mono ?_; rintro e w6 ⟨rfl, hb⟩; have H6 : Hid (Below q W w6) := hb; clear hb CW)
        go_ret
        exact ⟨rfl, H6.out⟩
      have k5 : dgB (byt x 0) = false := by simpa using k4
      have HD : Hid (dgB (byt x 0) = false ∧ x.size = s ∧ s ≠ 0 ∧ s ≤ 20) := ⟨k5, hs, k2, by omega⟩
      have hdd : x[0].toNat < 48 ∨ 57 < x[0].toNat := by rw [hg0] at k5; unfold dgB at k5; simp at k5; omega
      clear k1 k2 k3 k4 k5 hg0
      rcases hdd with hdd | hdd
      · have r0 : ¬ (x[0].toNat : Int) ≥ 48 := by omega
        have r1 : ¬ (48 : Int) ≤ (x[0].toNat : Int) := by omega
        clear hdd
        go_upto_region 11 with (fail)
        clear r0 r1 t0 t1 t2 t3 hc
        go_loopw [8] (fun v8 wr => ∃ k : Nat, k ≤ s ∧ v8 = .int .i64 k ∧ (∀ j, j < k → loB (byt x j) = true) ∧ wr = W) (fun v _ => s - (intOf v).toNat)
        case atStart => exact ⟨0, Nat.zero_le _, rfl, fun j hj => absurd hj (Nat.not_lt_zero _), rfl⟩
        case round =>
          obtain ⟨k, hk, rfl, hlo, hwr2⟩ := hrel
          obtain rfl : W = wr := hwr2.symm
          have bk0 : (0 : Int) ≤ (k : Int) := by omega
          have bk2 : (k : Int) ≤ 20 := by have := HD.out; omega
          by_cases hks : k < s
          · have hkl : k < x.size := by omega
            have hgk := byt_at x k hkl
            have bk : (k : Int) < (s : Int) := by omega
            have HKS : Hid (k < s) := hks
            by_cases hc2 : loB (byt x k) = true
            · have HU : Hid (∀ j, j < k + 1 → loB (byt x j) = true) := fun j hj => by
                by_cases e : j = k
                · rw [e]; exact hc2
                · exact hlo j (by omega)
              rw [hgk] at hc2
              have hcc : (97 ≤ x[k].toNat ∧ x[k].toNat ≤ 122) ∨ (48 ≤ x[k].toNat ∧ x[k].toNat ≤ 57) := by unfold loB at hc2; simpa using hc2
              clear hlo hc2 hks hgk hk CW
              rcases hcc with hcc | hcc
              · have p1 : ¬ (x[k].toNat : Int) < 97 := by omega
                have p2 : ¬ (x[k].toNat : Int) > 122 := by omega
                have p3 : ¬ (122 : Int) < (x[k].toNat : Int) := by omega
                clear hcc
                go_wp2
                exact ⟨⟨k + 1, HKS.out, congrArg (Value.int .i64) (Int.natCast_succ k).symm, HU.out, trivial⟩, by have := HKS.out; show s - ((k : Int) + 1).toNat < s - ((k : Int)).toNat; omega⟩
              · have p1 : (x[k].toNat : Int) < 97 := by omega
                have p2 : ¬ (x[k].toNat : Int) < 48 := by omega
                have p3 : ¬ (x[k].toNat : Int) > 57 := by omega
                have p4 : ¬ (57 : Int) < (x[k].toNat : Int) := by omega
                clear hcc
                go_wp2
                exact ⟨⟨k + 1, HKS.out, congrArg (Value.int .i64) (Int.natCast_succ k).symm, HU.out, trivial⟩, by have := HKS.out; show s - ((k : Int) + 1).toNat < s - ((k : Int)).toNat; omega⟩
            · rw [hgk] at hc2
              have hcc : x[k].toNat < 48 ∨ (57 < x[k].toNat ∧ x[k].toNat < 97) ∨ 122 < x[k].toNat := by unfold loB at hc2; simp at hc2; omega
              clear hlo hc2 hks hgk hk
              rcases hcc with hcc | hcc | hcc
              · have p0 : (x[k].toNat : Int) < 97 := by omega
                have p1 : (x[k].toNat : Int) < 48 := by omega
                clear hcc
                go_wp2_with (go_at_call 6; refine CW.mono ?_; rintro e w6 ⟨rfl, hb⟩; have H6 : Hid (Below q W w6) := hb; clear hb CW)
                go_ret
                exact ⟨rfl, H6.out⟩
              · have p0 : (x[k].toNat : Int) < 97 := by omega
                have p1 : ¬ (x[k].toNat : Int) < 48 := by omega
                have p2 : (x[k].toNat : Int) > 57 := by omega
                have p3 : (57 : Int) < (x[k].toNat : Int) := by omega
                clear hcc
                go_wp2_with (go_at_call 6; refine CW.mono ?_; rintro e w6 ⟨rfl, hb⟩; have H6 : Hid (Below q W w6) := hb; clear hb CW)
                go_ret
                exact ⟨rfl, H6.out⟩
              · have p0 : ¬ (x[k].toNat : Int) < 97 := by omega
                have p1 : (x[k].toNat : Int) > 122 := by omega
                have p2 : (122 : Int) < (x[k].toNat : Int) := by omega
                have p3 : ¬ (x[k].toNat : Int) < 48 := by omega
                have p4 : (x[k].toNat : Int) > 57 := by omega
                have p5 : (57 : Int) < (x[k].toNat : Int) := by omega
                clear hcc
                go_wp2_with (go_at_call 6; refine CW.mono ?_; rintro e w6 ⟨rfl, hb⟩; have H6 : Hid (Below q W w6) := hb; clear hb CW)
                go_ret
                exact ⟨rfl, H6.out⟩
          · have bk : ¬ (k : Int) < (s : Int) := by omega
            have HWX : Hid (WdL (toL x)) := wd_of (by have := HD.out; omega) HD.out.1 (fun j hj => hlo j (by have := HD.out; omega))
            have HWA : Hid (∀ j, j < i + 1 → WdL (toL (ws.getD j ⟨#[]⟩)) ∧ (ws.getD j ⟨#[]⟩).size ≤ 20) := fun j hj => by
              by_cases e : j = i
              · rw [e, HX.out]; exact ⟨HWX.out, by have := HD.out; omega⟩
              · exact HI.out.2 j (by omega)
            have HST := nmN_step b ws i
            rw [HX.out] at HST
            have HSZ : Hid ((nmN b ws i).size ≤ 20 + 21 * i ∧ i ≤ 20) := ⟨hgs, by have := HI.out.1; have := HZ.out; omega⟩
            obtain ⟨G, hG⟩ : ∃ G, nmN b ws i = G := ⟨_, rfl⟩
            rw [hG] at HST HSZ hgs ⊢
            have gz1 : G.size ≤ 1000 := by have := HSZ.out; omega
            have gz2 : x.size ≤ 20 := by have := HD.out; omega
            have gz3 : (G ++ (⟨#[43]⟩ : ByteArray)).size ≤ 1001 := by rw [ByteArray.size_append]; show G.size + 1 ≤ _; omega
            clear hlo hks hk CW
            by_cases hi0 : i = 0
            · rw [if_pos hi0] at HST
              have HS : Hid _ := HST
              have e1 : ¬ (i : Int) > 0 := by omega
              have e2 : ¬ (0 : Int) < (i : Int) := by omega
              clear HST hi0
              go_wp2
              exact ⟨⟨i + 1, HI.out.1, congrArg (Value.int .i64) (Int.natCast_succ i).symm, by rw [HS.out], by rw [HS.out, ByteArray.size_append]; have := HSZ.out; have := HD.out; omega, HWA.out, trivial⟩, by have := HI.out.1; show n - ((i : Int) + 1).toNat < n - ((i : Int)).toNat; omega⟩
            · rw [if_neg hi0] at HST
              have HS : Hid _ := HST
              have e1 : (i : Int) > 0 := by omega
              have e2 : (0 : Int) < (i : Int) := by omega
              clear HST hi0
              go_wp2
              exact ⟨⟨i + 1, HI.out.1, congrArg (Value.int .i64) (Int.natCast_succ i).symm, by rw [HS.out], by rw [HS.out, ByteArray.size_append, ByteArray.size_append]; have := HSZ.out; have := HD.out; show G.size + 1 + x.size ≤ _; omega, HWA.out, trivial⟩, by have := HI.out.1; show n - ((i : Int) + 1).toNat < n - ((i : Int)).toNat; omega⟩
      · have r0 : (x[0].toNat : Int) ≥ 48 := by omega
        have r1 : (48 : Int) ≤ (x[0].toNat : Int) := by omega
        have r2 : ¬ (x[0].toNat : Int) ≤ 57 := by omega
        clear hdd
        go_upto_region 11 with (fail)
        clear r0 r1 r2 t0 t1 t2 t3 hc
        go_loopw [8] (fun v8 wr => ∃ k : Nat, k ≤ s ∧ v8 = .int .i64 k ∧ (∀ j, j < k → loB (byt x j) = true) ∧ wr = W) (fun v _ => s - (intOf v).toNat)
        case atStart => exact ⟨0, Nat.zero_le _, rfl, fun j hj => absurd hj (Nat.not_lt_zero _), rfl⟩
        case round =>
          obtain ⟨k, hk, rfl, hlo, hwr2⟩ := hrel
          obtain rfl : W = wr := hwr2.symm
          have bk0 : (0 : Int) ≤ (k : Int) := by omega
          have bk2 : (k : Int) ≤ 20 := by have := HD.out; omega
          by_cases hks : k < s
          · have hkl : k < x.size := by omega
            have hgk := byt_at x k hkl
            have bk : (k : Int) < (s : Int) := by omega
            have HKS : Hid (k < s) := hks
            by_cases hc2 : loB (byt x k) = true
            · have HU : Hid (∀ j, j < k + 1 → loB (byt x j) = true) := fun j hj => by
                by_cases e : j = k
                · rw [e]; exact hc2
                · exact hlo j (by omega)
              rw [hgk] at hc2
              have hcc : (97 ≤ x[k].toNat ∧ x[k].toNat ≤ 122) ∨ (48 ≤ x[k].toNat ∧ x[k].toNat ≤ 57) := by unfold loB at hc2; simpa using hc2
              clear hlo hc2 hks hgk hk CW
              rcases hcc with hcc | hcc
              · have p1 : ¬ (x[k].toNat : Int) < 97 := by omega
                have p2 : ¬ (x[k].toNat : Int) > 122 := by omega
                have p3 : ¬ (122 : Int) < (x[k].toNat : Int) := by omega
                clear hcc
                go_wp2
                exact ⟨⟨k + 1, HKS.out, congrArg (Value.int .i64) (Int.natCast_succ k).symm, HU.out, trivial⟩, by have := HKS.out; show s - ((k : Int) + 1).toNat < s - ((k : Int)).toNat; omega⟩
              · have p1 : (x[k].toNat : Int) < 97 := by omega
                have p2 : ¬ (x[k].toNat : Int) < 48 := by omega
                have p3 : ¬ (x[k].toNat : Int) > 57 := by omega
                have p4 : ¬ (57 : Int) < (x[k].toNat : Int) := by omega
                clear hcc
                go_wp2
                exact ⟨⟨k + 1, HKS.out, congrArg (Value.int .i64) (Int.natCast_succ k).symm, HU.out, trivial⟩, by have := HKS.out; show s - ((k : Int) + 1).toNat < s - ((k : Int)).toNat; omega⟩
            · rw [hgk] at hc2
              have hcc : x[k].toNat < 48 ∨ (57 < x[k].toNat ∧ x[k].toNat < 97) ∨ 122 < x[k].toNat := by unfold loB at hc2; simp at hc2; omega
              clear hlo hc2 hks hgk hk
              rcases hcc with hcc | hcc | hcc
              · have p0 : (x[k].toNat : Int) < 97 := by omega
                have p1 : (x[k].toNat : Int) < 48 := by omega
                clear hcc
                go_wp2_with (go_at_call 6; refine CW.mono ?_; rintro e w6 ⟨rfl, hb⟩; have H6 : Hid (Below q W w6) := hb; clear hb CW)
                go_ret
                exact ⟨rfl, H6.out⟩
              · have p0 : (x[k].toNat : Int) < 97 := by omega
                have p1 : ¬ (x[k].toNat : Int) < 48 := by omega
                have p2 : (x[k].toNat : Int) > 57 := by omega
                have p3 : (57 : Int) < (x[k].toNat : Int) := by omega
                clear hcc
                go_wp2_with (go_at_call 6; refine CW.mono ?_; rintro e w6 ⟨rfl, hb⟩; have H6 : Hid (Below q W w6) := hb; clear hb CW)
                go_ret
                exact ⟨rfl, H6.out⟩
              · have p0 : ¬ (x[k].toNat : Int) < 97 := by omega
                have p1 : (x[k].toNat : Int) > 122 := by omega
                have p2 : (122 : Int) < (x[k].toNat : Int) := by omega
                have p3 : ¬ (x[k].toNat : Int) < 48 := by omega
                have p4 : (x[k].toNat : Int) > 57 := by omega
                have p5 : (57 : Int) < (x[k].toNat : Int) := by omega
                clear hcc
                go_wp2_with (go_at_call 6; refine CW.mono ?_; rintro e w6 ⟨rfl, hb⟩; have H6 : Hid (Below q W w6) := hb; clear hb CW)
                go_ret
                exact ⟨rfl, H6.out⟩
          · have bk : ¬ (k : Int) < (s : Int) := by omega
            have HWX : Hid (WdL (toL x)) := wd_of (by have := HD.out; omega) HD.out.1 (fun j hj => hlo j (by have := HD.out; omega))
            have HWA : Hid (∀ j, j < i + 1 → WdL (toL (ws.getD j ⟨#[]⟩)) ∧ (ws.getD j ⟨#[]⟩).size ≤ 20) := fun j hj => by
              by_cases e : j = i
              · rw [e, HX.out]; exact ⟨HWX.out, by have := HD.out; omega⟩
              · exact HI.out.2 j (by omega)
            have HST := nmN_step b ws i
            rw [HX.out] at HST
            have HSZ : Hid ((nmN b ws i).size ≤ 20 + 21 * i ∧ i ≤ 20) := ⟨hgs, by have := HI.out.1; have := HZ.out; omega⟩
            obtain ⟨G, hG⟩ : ∃ G, nmN b ws i = G := ⟨_, rfl⟩
            rw [hG] at HST HSZ hgs ⊢
            have gz1 : G.size ≤ 1000 := by have := HSZ.out; omega
            have gz2 : x.size ≤ 20 := by have := HD.out; omega
            have gz3 : (G ++ (⟨#[43]⟩ : ByteArray)).size ≤ 1001 := by rw [ByteArray.size_append]; show G.size + 1 ≤ _; omega
            clear hlo hks hk CW
            by_cases hi0 : i = 0
            · rw [if_pos hi0] at HST
              have HS : Hid _ := HST
              have e1 : ¬ (i : Int) > 0 := by omega
              have e2 : ¬ (0 : Int) < (i : Int) := by omega
              clear HST hi0
              go_wp2
              exact ⟨⟨i + 1, HI.out.1, congrArg (Value.int .i64) (Int.natCast_succ i).symm, by rw [HS.out], by rw [HS.out, ByteArray.size_append]; have := HSZ.out; have := HD.out; omega, HWA.out, trivial⟩, by have := HI.out.1; show n - ((i : Int) + 1).toNat < n - ((i : Int)).toNat; omega⟩
            · rw [if_neg hi0] at HST
              have HS : Hid _ := HST
              have e1 : (i : Int) > 0 := by omega
              have e2 : (0 : Int) < (i : Int) := by omega
              clear HST hi0
              go_wp2
              exact ⟨⟨i + 1, HI.out.1, congrArg (Value.int .i64) (Int.natCast_succ i).symm, by rw [HS.out], by rw [HS.out, ByteArray.size_append, ByteArray.size_append]; have := HSZ.out; have := HD.out; show G.size + 1 + x.size ≤ _; omega, HWA.out, trivial⟩, by have := HI.out.1; show n - ((i : Int) + 1).toNat < n - ((i : Int)).toNat; omega⟩
    · have b1 : ¬ (i : Int) < (n : Int) := by omega
      obtain rfl : i = n := by omega
      have HWS : Hid (∀ w ∈ ws, WdL (toL w)) := fun w hw => by
        obtain ⟨j, hj, rfl⟩ := List.getElem_of_mem hw
        have := hwd j (by have := HNN.out.1; omega)
        rw [show ws.getD j ⟨#[]⟩ = ws[j] by simp [List.getD, hj]] at this
        exact this.1
      have HW20 : Hid (∀ w ∈ ws, w.size ≤ 20) := fun w hw => by
        obtain ⟨j, hj, rfl⟩ := List.getElem_of_mem hw
        have := hwd j (by have := HNN.out.1; omega)
        rw [show ws.getD j ⟨#[]⟩ = ws[j] by simp [List.getD, hj]] at this
        exact this.2
      obtain ⟨F, hF⟩ : ∃ F, nmN b ws i = F := ⟨_, rfl⟩
      have HF : Hid (nmN b ws ws.length = F) := by show _ = _; rw [HNN.out.1]; exact hF
      simp only [hF]
      clear hwd hlt hi hF
      go_upto_region 19 with (fail)
      clear b1
      go_loopw [9] (fun v9 wr => ∃ k : Nat, k ≤ m ∧ v9 = .int .i64 k ∧ (∀ j, j < k → upB (byt b j) = true) ∧ wr = W) (fun v _ => m - (intOf v).toNat)
      case atStart => exact ⟨0, Nat.zero_le _, rfl, fun j hj => absurd hj (Nat.not_lt_zero _), rfl⟩
      case round =>
        obtain ⟨k, hk, rfl, hup, hwr2⟩ := hrel
        obtain rfl : W = wr := hwr2.symm
        have bk0 : (0 : Int) ≤ (k : Int) := by omega
        by_cases hkm : k < m
        · have hkl : k < b.size := by omega
          have hgk := byt_at b k hkl
          have bk : (k : Int) < (m : Int) := by omega
          have HKM : Hid (k < m) := hkm
          by_cases hc2 : upB (byt b k) = true
          · have HU : Hid (∀ j, j < k + 1 → upB (byt b j) = true) := fun j hj => by
              by_cases e : j = k
              · rw [e]; exact hc2
              · exact hup j (by omega)
            rw [hgk] at hc2
            have hcc : (65 ≤ b[k].toNat ∧ b[k].toNat ≤ 90) ∨ (48 ≤ b[k].toNat ∧ b[k].toNat ≤ 57) := by unfold upB at hc2; simpa using hc2
            clear hup hc2 hkm hgk hk CW
            rcases hcc with hcc | hcc
            · have p1 : ¬ (b[k].toNat : Int) < 65 := by omega
              have p2 : ¬ (b[k].toNat : Int) > 90 := by omega
              have p3 : ¬ (90 : Int) < (b[k].toNat : Int) := by omega
              clear hcc
              go_wp2
              exact ⟨⟨k + 1, HKM.out, congrArg (Value.int .i64) (Int.natCast_succ k).symm, HU.out, trivial⟩, by have := HKM.out; show m - ((k : Int) + 1).toNat < m - ((k : Int)).toNat; omega⟩
            · have p1 : (b[k].toNat : Int) < 65 := by omega
              have p2 : ¬ (b[k].toNat : Int) < 48 := by omega
              have p3 : ¬ (b[k].toNat : Int) > 57 := by omega
              have p4 : ¬ (57 : Int) < (b[k].toNat : Int) := by omega
              clear hcc
              go_wp2
              exact ⟨⟨k + 1, HKM.out, congrArg (Value.int .i64) (Int.natCast_succ k).symm, HU.out, trivial⟩, by have := HKM.out; show m - ((k : Int) + 1).toNat < m - ((k : Int)).toNat; omega⟩
          · rw [hgk] at hc2
            have hcc : b[k].toNat < 48 ∨ (57 < b[k].toNat ∧ b[k].toNat < 65) ∨ 90 < b[k].toNat := by unfold upB at hc2; simp at hc2; omega
            clear hup hc2 hkm hgk hk
            rcases hcc with hcc | hcc | hcc
            · have p0 : (b[k].toNat : Int) < 65 := by omega
              have p1 : (b[k].toNat : Int) < 48 := by omega
              clear hcc
              go_wp2_with (go_at_call 6; refine CW.mono ?_; rintro e w6 ⟨rfl, hb⟩; have H6 : Hid (Below q W w6) := hb; clear hb CW)
              go_ret
              exact ⟨rfl, H6.out⟩
            · have p0 : (b[k].toNat : Int) < 65 := by omega
              have p1 : ¬ (b[k].toNat : Int) < 48 := by omega
              have p2 : (b[k].toNat : Int) > 57 := by omega
              have p3 : (57 : Int) < (b[k].toNat : Int) := by omega
              clear hcc
              go_wp2_with (go_at_call 6; refine CW.mono ?_; rintro e w6 ⟨rfl, hb⟩; have H6 : Hid (Below q W w6) := hb; clear hb CW)
              go_ret
              exact ⟨rfl, H6.out⟩
            · have p0 : ¬ (b[k].toNat : Int) < 65 := by omega
              have p1 : (b[k].toNat : Int) > 90 := by omega
              have p2 : (90 : Int) < (b[k].toNat : Int) := by omega
              have p3 : ¬ (b[k].toNat : Int) < 48 := by omega
              have p4 : (b[k].toNat : Int) > 57 := by omega
              have p5 : (57 : Int) < (b[k].toNat : Int) := by omega
              clear hcc
              go_wp2_with (go_at_call 6; refine CW.mono ?_; rintro e w6 ⟨rfl, hb⟩; have H6 : Hid (Below q W w6) := hb; clear hb CW)
              go_ret
              exact ⟨rfl, H6.out⟩
        · have bk : ¬ (k : Int) < (m : Int) := by omega
          have hWd : Wdd b ws := ⟨by have := HZ.out; have := HNN.out; omega, fun j hj => hup j (by have := HNN.out; omega), HWS.out, fun e => HZ.out.2.2 (by rw [← HNN.out.1, e]; rfl)⟩
          have HP1 : Hid (nprs (hdN ++ F ++ tlN) = nmd b ws) := worded_prs hWd (by rw [HF.out]; exact cat_toL F)
          have HP2 : Hid (nprs (hdN ++ F ++ ⟨#[43]⟩ ++ tlN) = (zPt, 13)) := worded_more hWd (by rw [HF.out]; exact cat3_toL F)
          have hap := cat_eq F
          have hap2 : (⟨#[78, 111, 105, 115, 101, 95]⟩ : ByteArray) ++ F ++ ⟨#[43]⟩ ++ ⟨#[95, 50, 53, 53, 49, 57, 95, 67, 104, 97, 67, 104, 97, 80, 111, 108, 121, 95, 66, 76, 65, 75, 69, 50, 115]⟩ = hdN ++ F ++ ⟨#[43]⟩ ++ tlN := rfl
          have HFS : Hid (F.size ≤ 100000) := by
            show F.size ≤ 100000
            have h1 := nmN_size b ws ws.length (Nat.le_refl _) HW20.out
            rw [HF.out] at h1
            have := HZ.out
            have := HNN.out
            omega
          have fz : F.size ≤ 100000 := HFS.out
          have hc1 : (hdN ++ F ++ tlN).size ≤ 140737488355400 := by rw [cat_size]; have := HFS.out; omega
          have hc2 : (hdN ++ F ++ ⟨#[43]⟩ ++ tlN).size ≤ 140737488355400 := by
            have e1 : (hdN ++ F ++ ⟨#[43]⟩ ++ tlN).size = F.size + 32 := by rw [ByteArray.size_append, ByteArray.size_append, ByteArray.size_append]; show 6 + F.size + 1 + 25 = _; omega
            rw [e1]; have := HFS.out; omega
          have CP := nparse_any (ea := ea) (hdN ++ F ++ tlN) W (HE.out W (Below.refl _ _)) hc1
          have HC2 : Hid (∀ Y, Below q W Y → Calls Tryd.prog 7 #[.string (hdN ++ F ++ ⟨#[43]⟩ ++ tlN)] Y (NpP ea (hdN ++ F ++ ⟨#[43]⟩ ++ tlN) Y)) := fun Y hY => nparse_any _ Y (HE.out Y hY) hc2
          unfold NpP at CP HC2
          rw [HP1.out, HQ.out] at CP
          rw [HP2.out] at HC2
          simp only [EV_ne (show (13 : Int) ≠ 0 by decide)] at HC2
          obtain ⟨t, ht⟩ : ∃ t, hdN ++ F ++ tlN = t := ⟨_, rfl⟩
          obtain ⟨t2, ht2⟩ : ∃ t2, hdN ++ F ++ ⟨#[43]⟩ ++ tlN = t2 := ⟨_, rfl⟩
          rw [ht] at CP hap
          rw [ht2] at HC2 hap2
          have HFN : Hid (∀ Y, Below q W Y → Calls Tryd.prog 11 #[.string b] Y (FnP b Y)) := fun Y hY => find_any' b Y (HE.out Y hY)
          unfold FnP at HFN
          clear hup hkm hk CW HP1 HP2 hc1 hc2 ht ht2 hWd HWS
          cases hp : tbI b with
          | none =>
            have hnm : nmd b ws = (zPt, 13) := by unfold nmd; rw [hp]
            rw [hnm] at CP
            rw [hp] at HFN
            simp only [EV_ne (show (13 : Int) ≠ 0 by decide), Option.getD_none, Option.isSome_none] at CP HFN
            clear hnm
            go_upto_region 24 with (go_at_call 7; refine CP.mono ?_; rintro e w1 ⟨hb, v0, v1, vl, rfl, hft, -⟩; obtain ⟨d0, m0, n0, rfl⟩ := hft.1.sl3; obtain ⟨d1, m1, n1, rfl⟩ := hft.2.1.sl3; obtain ⟨d2, m2, n2, rfl⟩ := hft.2.2.sl3; have H1 : Hid (Below q W w1) := hb; clear hb hft CP)
            have hB := sub_le' H1.out ((Below.refl w1.heap.size w1).alloc (Nat.le_refl _) (.cells #[.string zPt.nm, .slice d0 m0 n0, .slice d1 m1 n1, .slice d2 m2 n2] 27)) (by have := H1.out.size; have := HQ.out; omega)
            obtain ⟨W2, hW2⟩ : ∃ W2, w1.alloc (.cells #[.string zPt.nm, .slice d0 m0 n0, .slice d1 m1 n1, .slice d2 m2 n2] 27) = W2 := ⟨_, rfl⟩
            simp only [hW2] at hB ⊢
            have H2 : Hid (Below q W W2) := hB
            have CF := HFN.out W2 hB
            clear hB hW2
            go_upto_region 25 with (go_at_call 11; refine CF.mono ?_; rintro e w3 ⟨hb, v0, v1, vl, rfl, hft⟩; obtain ⟨e0, i0, j0, rfl⟩ := hft.1.sl3; obtain ⟨e1, i1, j1, rfl⟩ := hft.2.1.sl3; obtain ⟨e2, i2, j2, rfl⟩ := hft.2.2.sl3; have H3 : Hid (Below q W w3) := sub_le' H2.out hb (by have := H2.out.size; have := HQ.out; omega); clear hb hft CF)
            have hB := sub_le' H3.out ((Below.refl w3.heap.size w3).alloc (Nat.le_refl _) (.cells #[.string zPt.nm, .slice e0 i0 j0, .slice e1 i1 j1, .slice e2 i2 j2] 27)) (by have := H3.out.size; have := HQ.out; omega)
            obtain ⟨W4, hW4⟩ : ∃ W4, w3.alloc (.cells #[.string zPt.nm, .slice e0 i0 j0, .slice e1 i1 j1, .slice e2 i2 j2] 27) = W4 := ⟨_, rfl⟩
            simp only [hW4] at hB ⊢
            have H4 : Hid (Below q W W4) := hB
            have hE1 := HE.out W4 hB
            have k13 := (hE1.1 13 (by decide)).1
            simp only [eblk] at k13
            have q1 := eq_err hE1 (c := 13) (d := 13) (by decide) (by decide)
            have CW := awake_any W4 hE1
            clear hE1 hB hW4
            go_wp2_with (go_at_call 6; refine CW.mono ?_; rintro e w6 ⟨rfl, hb⟩; have H6 : Hid (Below q W w6) := sub_le' H4.out hb (by have := H4.out.size; have := HQ.out; omega); clear hb CW)
            go_ret
            exact ⟨rfl, H6.out⟩
          | some p =>
            have hnm : nmd b ws = if (mdf p ws).2 ≠ 0 then (zPt, 13) else ((mdf p ws).1, 0) := by unfold nmd; rw [hp]
            have HPT : Hid (p.nm.size ≤ 100) := (tab_f (tbI_mem hp).1).nm
            rw [hnm] at CP
            rw [hp] at HFN
            simp only [Option.getD_some, Option.isSome_some] at HFN
            have HMO : Hid (∀ Y v, Below q W Y → RdP Y v p → Calls Tryd.prog 12 #[v, .slice aw i cw] Y (MoP ea p ws Y)) := fun Y v hY hR => modify_any' v _ p ws Y (HE.out Y hY) hR (HW.out Y hY) (by have := HPT.out; omega) (by have := HNN.out.1; have := HZ.out; omega) HWZ.out (fun a n c e => by injection e with e1 e2 e3; have := HCP.out; omega)
            unfold MoP at HMO
            obtain ⟨md, hmd⟩ : ∃ md, mdf p ws = md := ⟨_, rfl⟩
            rw [hmd] at CP HMO
            obtain ⟨P, c⟩ := md
            simp only at CP HMO
            clear hnm hmd
            by_cases hc0 : c = 0
            · subst hc0
              simp only [show ¬ ((0 : Int) ≠ 0) by decide, if_false, EV_0] at CP HMO
              go_upto_region 24 with (go_at_call 7; refine CP.mono ?_; rintro e w1 ⟨hb, v0, v1, vl, rfl, hft, -⟩; have hrd := hft.rd; obtain ⟨d0, m0, n0, rfl⟩ := hft.1.sl3; obtain ⟨d1, m1, n1, rfl⟩ := hft.2.1.sl3; obtain ⟨d2, m2, n2, rfl⟩ := hft.2.2.sl3; have H1 : Hid (Below q W w1 ∧ RdP w1 (.agg #[.string P.nm, .slice d0 m0 n0, .slice d1 m1 n1, .slice d2 m2 n2]) P) := ⟨hb, hrd⟩; clear hb hft hrd CP)
              have hbx := bx_new w1 H1.out.2
              have ha : Below w1.heap.size w1 (w1.alloc (.cells #[.string P.nm, .slice d0 m0 n0, .slice d1 m1 n1, .slice d2 m2 n2] 27)) := (Below.refl _ _).alloc (Nat.le_refl _) _
              have hB := sub_le' H1.out.1 ha (by have := H1.out.1.size; have := HQ.out; omega)
              obtain ⟨g1, hg1⟩ : ∃ g, w1.heap.size = g := ⟨_, rfl⟩
              obtain ⟨W2, hW2⟩ : ∃ W2, w1.alloc (.cells #[.string P.nm, .slice d0 m0 n0, .slice d1 m1 n1, .slice d2 m2 n2] 27) = W2 := ⟨_, rfl⟩
              simp only [hg1, hW2] at hbx hB ⊢
              have H2 : Hid (Below q W W2 ∧ BX g1 (.slice d0 m0 n0) (.slice d1 m1 n1) (.slice d2 m2 n2) P W2) := ⟨hB, hbx⟩
              have CF := HFN.out W2 hB
              clear hbx ha hB hg1 hW2 H1
              go_upto_region 25 with (go_at_call 11; refine CF.mono ?_; rintro e w3 ⟨hb, v0, v1, vl, rfl, hft⟩; have hrd := hft.rd; obtain ⟨e0, i0, j0, rfl⟩ := hft.1.sl3; obtain ⟨e1, i1, j1, rfl⟩ := hft.2.1.sl3; obtain ⟨e2, i2, j2, rfl⟩ := hft.2.2.sl3; have H3 : Hid (Below q W w3 ∧ BX g1 (.slice d0 m0 n0) (.slice d1 m1 n1) (.slice d2 m2 n2) P w3 ∧ RdP w3 (.agg #[.string p.nm, .slice e0 i0 j0, .slice e1 i1 j1, .slice e2 i2 j2]) p) := ⟨sub_le' H2.out.1 hb (by have := H2.out.1.size; have := HQ.out; omega), H2.out.2.below hb, hrd⟩; clear hb hft hrd CF)
              have hbx := bx_new w3 H3.out.2.2
              have ha : Below w3.heap.size w3 (w3.alloc (.cells #[.string p.nm, .slice e0 i0 j0, .slice e1 i1 j1, .slice e2 i2 j2] 27)) := (Below.refl _ _).alloc (Nat.le_refl _) _
              have hB := sub_le' H3.out.1 ha (by have := H3.out.1.size; have := HQ.out; omega)
              have hx := H3.out.2.1.below ha
              obtain ⟨g3, hg3⟩ : ∃ g, w3.heap.size = g := ⟨_, rfl⟩
              obtain ⟨W4, hW4⟩ : ∃ W4, w3.alloc (.cells #[.string p.nm, .slice e0 i0 j0, .slice e1 i1 j1, .slice e2 i2 j2] 27) = W4 := ⟨_, rfl⟩
              simp only [hg3, hW4] at hbx hB hx ⊢
              have H4 : Hid (Below q W W4 ∧ BX g1 (.slice d0 m0 n0) (.slice d1 m1 n1) (.slice d2 m2 n2) P W4 ∧ BX g3 (.slice e0 i0 j0) (.slice e1 i1 j1) (.slice e2 i2 j2) p W4) := ⟨hB, hx, hbx⟩
              have CM := HMO.out W4 _ hB hbx.rd
              have y0 := hbx.c0
              have y1 := hbx.c1
              have y2 := hbx.c2
              have y3 := hbx.c3
              clear hbx ha hB hg3 hW4 hx H3 H2
              go_upto_region 28 with (go_at_call 12; refine CM.mono ?_; rintro e w5 ⟨hb, v0, v1, vl, rfl, hft⟩; have hrd := hft.rd; obtain ⟨f0, h0, l0, rfl⟩ := hft.1.sl3; obtain ⟨f1, h1, l1, rfl⟩ := hft.2.1.sl3; obtain ⟨f2, h2, l2, rfl⟩ := hft.2.2.sl3; have H5 : Hid (Below q W w5 ∧ BX g1 (.slice d0 m0 n0) (.slice d1 m1 n1) (.slice d2 m2 n2) P w5 ∧ RdP w5 (.agg #[.string P.nm, .slice f0 h0 l0, .slice f1 h1 l1, .slice f2 h2 l2]) P) := ⟨sub_le' H4.out.1 hb (by have := H4.out.1.size; have := HQ.out; omega), H4.out.2.1.below hb, hrd⟩; clear hb hft hrd CM y0 y1 y2 y3)
              have hbx := bx_new w5 H5.out.2.2
              have ha : Below w5.heap.size w5 (w5.alloc (.cells #[.string P.nm, .slice f0 h0 l0, .slice f1 h1 l1, .slice f2 h2 l2] 27)) := (Below.refl _ _).alloc (Nat.le_refl _) _
              have hB := sub_le' H5.out.1 ha (by have := H5.out.1.size; have := HQ.out; omega)
              have hx := H5.out.2.1.below ha
              obtain ⟨g5, hg5⟩ : ∃ g, w5.heap.size = g := ⟨_, rfl⟩
              obtain ⟨W6, hW6⟩ : ∃ W6, w5.alloc (.cells #[.string P.nm, .slice f0 h0 l0, .slice f1 h1 l1, .slice f2 h2 l2] 27) = W6 := ⟨_, rfl⟩
              simp only [hg5, hW6] at hbx hB hx ⊢
              have H6 : Hid (Below q W W6 ∧ BX g1 (.slice d0 m0 n0) (.slice d1 m1 n1) (.slice d2 m2 n2) P W6 ∧ BX g5 (.slice f0 h0 l0) (.slice f1 h1 l1) (.slice f2 h2 l2) P W6) := ⟨hB, hx, hbx⟩
              have C3 := HC2.out W6 hB
              clear hbx ha hB hg5 hW6 hx H5 H4
              go_upto_region 31 with (go_at_call 7; refine C3.mono ?_; rintro e w7 ⟨hb, v0, v1, vl, rfl, hft, -⟩; obtain ⟨u0, x0, z0, rfl⟩ := hft.1.sl3; obtain ⟨u1, x1, z1, rfl⟩ := hft.2.1.sl3; obtain ⟨u2, x2, z2, rfl⟩ := hft.2.2.sl3; have H7 : Hid (Below q W w7 ∧ BX g1 (.slice d0 m0 n0) (.slice d1 m1 n1) (.slice d2 m2 n2) P w7 ∧ BX g5 (.slice f0 h0 l0) (.slice f1 h1 l1) (.slice f2 h2 l2) P w7) := ⟨sub_le' H6.out.1 hb (by have := H6.out.1.size; have := HQ.out; omega), H6.out.2.1.below hb, H6.out.2.2.below hb⟩; clear hb hft C3)
              have ha : Below w7.heap.size w7 (w7.alloc (.cells #[.string zPt.nm, .slice u0 x0 z0, .slice u1 x1 z1, .slice u2 x2 z2] 27)) := (Below.refl _ _).alloc (Nat.le_refl _) _
              have hB := sub_le' H7.out.1 ha (by have := H7.out.1.size; have := HQ.out; omega)
              have hx := H7.out.2.1.below ha
              have hbx := H7.out.2.2.below ha
              obtain ⟨W8, hW8⟩ : ∃ W8, w7.alloc (.cells #[.string zPt.nm, .slice u0 x0 z0, .slice u1 x1 z1, .slice u2 x2 z2] 27) = W8 := ⟨_, rfl⟩
              simp only [hW8] at hbx hB hx ⊢
              have H8 : Hid (Below q W W8) := hB
              have CA := alike_true hx.rd hbx.rd
              have x0' := hx.c0
              have x1' := hx.c1
              have x2' := hx.c2
              have x3' := hx.c3
              have y0' := hbx.c0
              have y1' := hbx.c1
              have y2' := hbx.c2
              have y3' := hbx.c3
              clear hbx ha hB hW8 hx H7 H6
              go_wp2_with (first
                | (go_at_call 9; refine CA.mono ?_; rintro e w9 ⟨rfl, hb⟩; have H9 : Hid (Below q W w9) := sub_le' H8.out hb (by have := H8.out.size; have := HQ.out; omega); have CW := awake_any w9 (HE.out w9 H9.out); have k13 := ((HE.out w9 H9.out).1 13 (by decide)).1; simp only [eblk] at k13; have q1 := eq_err (HE.out w9 H9.out) (c := 13) (d := 13) (by decide) (by decide); clear hb CA x0' x1' x2' x3' y0' y1' y2' y3')
                | (go_at_call 6; refine CW.mono ?_; rintro e wa ⟨rfl, hb⟩; have HA : Hid (Below q W wa) := sub_le' H9.out hb (by have := H9.out.size; have := HQ.out; omega); clear hb CW))
              go_ret
              exact ⟨rfl, HA.out⟩
            · rw [if_pos hc0] at CP
              simp only [EV_ne (show (13 : Int) ≠ 0 by decide), EV_ne hc0] at CP HMO
              go_upto_region 24 with (go_at_call 7; refine CP.mono ?_; rintro e w1 ⟨hb, v0, v1, vl, rfl, hft, -⟩; have hrd := hft.rd; obtain ⟨d0, n0, d1, n1, d2, n2, rfl, rfl, rfl⟩ := ft_sl hft; have H1 : Hid (Below q W w1 ∧ RdP w1 (.agg #[.string zPt.nm, .slice d0 0 n0, .slice d1 0 n1, .slice d2 0 n2]) zPt) := ⟨hb, hrd⟩; clear hb hft hrd CP)
              have hbx := bx_new w1 H1.out.2
              have ha : Below w1.heap.size w1 (w1.alloc (.cells #[.string zPt.nm, .slice d0 0 n0, .slice d1 0 n1, .slice d2 0 n2] 27)) := (Below.refl _ _).alloc (Nat.le_refl _) _
              have hB := sub_le' H1.out.1 ha (by have := H1.out.1.size; have := HQ.out; omega)
              obtain ⟨g1, hg1⟩ : ∃ g, w1.heap.size = g := ⟨_, rfl⟩
              obtain ⟨W2, hW2⟩ : ∃ W2, w1.alloc (.cells #[.string zPt.nm, .slice d0 0 n0, .slice d1 0 n1, .slice d2 0 n2] 27) = W2 := ⟨_, rfl⟩
              have hl0 : zPt.b0.length = 0 := rfl
              have hl1 : zPt.b1.length = 0 := rfl
              have hl2 : zPt.ln.length = 0 := rfl
              simp only [hg1, hW2] at hbx hB
              simp only [hl0, hl1, hl2, hg1, hW2]
              have H2 : Hid (Below q W W2 ∧ BX g1 (.slice d0 0 n0) (.slice d1 0 n1) (.slice d2 0 n2) zPt W2) := ⟨hB, hbx⟩
              have CF := HFN.out W2 hB
              clear hbx ha hB hg1 hW2 H1
              go_upto_region 25 with (go_at_call 11; refine CF.mono ?_; rintro e w3 ⟨hb, v0, v1, vl, rfl, hft⟩; have hrd := hft.rd; obtain ⟨e0, i0, j0, rfl⟩ := hft.1.sl3; obtain ⟨e1, i1, j1, rfl⟩ := hft.2.1.sl3; obtain ⟨e2, i2, j2, rfl⟩ := hft.2.2.sl3; have H3 : Hid (Below q W w3 ∧ BX g1 (.slice d0 0 n0) (.slice d1 0 n1) (.slice d2 0 n2) zPt w3 ∧ RdP w3 (.agg #[.string p.nm, .slice e0 i0 j0, .slice e1 i1 j1, .slice e2 i2 j2]) p) := ⟨sub_le' H2.out.1 hb (by have := H2.out.1.size; have := HQ.out; omega), H2.out.2.below hb, hrd⟩; clear hb hft hrd CF)
              have hbx := bx_new w3 H3.out.2.2
              have ha : Below w3.heap.size w3 (w3.alloc (.cells #[.string p.nm, .slice e0 i0 j0, .slice e1 i1 j1, .slice e2 i2 j2] 27)) := (Below.refl _ _).alloc (Nat.le_refl _) _
              have hB := sub_le' H3.out.1 ha (by have := H3.out.1.size; have := HQ.out; omega)
              have hx := H3.out.2.1.below ha
              obtain ⟨g3, hg3⟩ : ∃ g, w3.heap.size = g := ⟨_, rfl⟩
              obtain ⟨W4, hW4⟩ : ∃ W4, w3.alloc (.cells #[.string p.nm, .slice e0 i0 j0, .slice e1 i1 j1, .slice e2 i2 j2] 27) = W4 := ⟨_, rfl⟩
              simp only [hg3, hW4] at hbx hB hx ⊢
              have H4 : Hid (Below q W W4 ∧ BX g1 (.slice d0 0 n0) (.slice d1 0 n1) (.slice d2 0 n2) zPt W4 ∧ BX g3 (.slice e0 i0 j0) (.slice e1 i1 j1) (.slice e2 i2 j2) p W4) := ⟨hB, hx, hbx⟩
              have CM := HMO.out W4 _ hB hbx.rd
              have y0 := hbx.c0
              have y1 := hbx.c1
              have y2 := hbx.c2
              have y3 := hbx.c3
              clear hbx ha hB hg3 hW4 hx H3 H2
              go_upto_region 28 with (go_at_call 12; refine CM.mono ?_; rintro e w5 ⟨hb, v0, v1, vl, rfl, hft⟩; obtain ⟨f0, h0, l0, rfl⟩ := hft.1.sl3; obtain ⟨f1, h1, l1, rfl⟩ := hft.2.1.sl3; obtain ⟨f2, h2, l2, rfl⟩ := hft.2.2.sl3; have H5 : Hid (Below q W w5 ∧ BX g1 (.slice d0 0 n0) (.slice d1 0 n1) (.slice d2 0 n2) zPt w5) := ⟨sub_le' H4.out.1 hb (by have := H4.out.1.size; have := HQ.out; omega), H4.out.2.1.below hb⟩; clear hb hft CM y0 y1 y2 y3)
              have ha : Below w5.heap.size w5 (w5.alloc (.cells #[.string P.nm, .slice f0 h0 l0, .slice f1 h1 l1, .slice f2 h2 l2] 27)) := (Below.refl _ _).alloc (Nat.le_refl _) _
              have hB := sub_le' H5.out.1 ha (by have := H5.out.1.size; have := HQ.out; omega)
              have hx := H5.out.2.below ha
              obtain ⟨W6, hW6⟩ : ∃ W6, w5.alloc (.cells #[.string P.nm, .slice f0 h0 l0, .slice f1 h1 l1, .slice f2 h2 l2] 27) = W6 := ⟨_, rfl⟩
              simp only [hW6] at hB hx ⊢
              have H6 : Hid (Below q W W6) := hB
              have hE1 := HE.out W6 hB
              have k13 := (hE1.1 13 (by decide)).1
              simp only [eblk] at k13
              have q1 := eq_err hE1 (c := 13) (d := 13) (by decide) (by decide)
              have CW := awake_any W6 hE1
              have x3 := hx.c3
              clear hE1 hB hW6 hx ha H5 H4
              go_wp2_with (go_at_call 6; refine CW.mono ?_; rintro e w7 ⟨rfl, hb⟩; have H7 : Hid (Below q W w7) := sub_le' H6.out hb (by have := H6.out.size; have := HQ.out; omega); clear hb CW)
              go_ret
              exact ⟨rfl, H7.out⟩
end Go.Proofs.YtchnkpgkckadmaaDoor
