import Derived.Test.YtmlcgcmoioekpaaGreatDoorMpah
import Derived.Test.YtmlcgcmoioekpaaGreatDoorMpaj
import Derived.Test.YtmlcgcmoioekpaaGreatDoorMpai
import Derived.Test.YtmlcgcmoioekpaaGreatDoorMpbh
namespace Go.Proofs.YtmlcgcmoioekpaaGreatDoor
set_option linter.unusedSimpArgs false
set_option linter.unusedVariables false
open Go.ChangeShapes Go.WideShapes Go.ChangeAt Go.RowKit Go.Pin Go.Pat
set_option maxRecDepth 100000 in
theorem word_any (t : Int) (w : World) :
    Calls Tryz.prog 76 #[.int .i64 t] w fun e w' => e = .returned (.string (wrd t)) ∧ w' = w := by
  go_enter Tryz.func76, Tryz.ntmps76
  go_wp2
  all_goals
    go_ret
    refine ⟨?_, rfl⟩
    simp_all [wrd]
set_option maxRecDepth 100000 in
set_option maxHeartbeats 2000000 in
theorem row_any {W : World} {v : Value} {C : List Int} (hv : RdN W v C) (hC : C.length ≤ 2000) (side : Int) :
    Calls Tryz.prog 45 #[.int .i64 side, v] W fun e w' => e = .returned (.string (row side C)) ∧ w' = W := by
  obtain ⟨a, ca, rfl, -, -, -⟩ := id hv
  obtain ⟨-, hal, hua⟩ := hv.at
  obtain ⟨n, hnl⟩ : ∃ n, C.length = n := ⟨_, rfl⟩
  have hR : row side C = rowN (hdr side) C n ++ ⟨#[10]⟩ := by rw [← hnl]; rfl
  have hz : ∀ i, i ≤ n → (rowN (hdr side) C i).size ≤ 20000 := fun i hi => by have := rowN_size (hdr side) C i; rw [hdr_size] at this; omega
  rw [hR]
  rw [hnl] at hua hal hC
  rw [hnl]
  obtain ⟨h, hh⟩ : ∃ h, hdr side = h := ⟨_, rfl⟩
  have hd : (if side = 1 then (⟨#[32, 32, 60, 45, 32]⟩ : ByteArray) else ⟨#[32, 32, 45, 62, 32]⟩) = h := hh
  rw [hh] at hz
  have HN : Hid (n ≤ 140737488355328) := hal
  have HA : Hid _ := hua
  have HZ : Hid _ := hz
  rw [hh]
  clear hv hua hal hnl hR hz hh
  rcases hs1 : (side == 1) with _ | _
  all_goals
    simp only [show (side = 1) = ((side == 1) = true) by simp, hs1, if_true, if_false, Bool.false_eq_true] at hd
    go_enter Tryz.func45, Tryz.ntmps45
    go_wp2
    try simp only [hd]
    go_loopw [5, 6] (fun v5 v6 wr => ∃ i : Nat, i ≤ n ∧ v6 = .int .i64 i ∧ v5 = .string (rowN h C i) ∧ wr = W) (fun _ v _ => n - (intOf v).toNat)
    case atStart => exact ⟨0, Nat.zero_le _, rfl, rfl, rfl⟩
    case round =>
      obtain ⟨i, hi, rfl, rfl, rfl⟩ := hrel
      have hz := HZ.out i hi
      by_cases hlt : i < n
      · have b1 : (i : Int) < (n : Int) := by omega
        obtain ⟨g, o, rfl, h1⟩ := HA.out i hlt
        have c := h1 _ (Below.refl _ _)
        have hzw := wrd_size (C.getD i 0)
        have hn := HZ.out (i + 1) hlt
        have hu : rowN h C (i + 1) = (if i = 0 then rowN h C i else rowN h C i ++ ⟨#[44, 32]⟩) ++ wrd (C.getD i 0) := rfl
        have CW := word_any (C.getD i 0) wr
        obtain ⟨x, hx⟩ : ∃ x, wrd (C.getD i 0) = x := ⟨_, rfl⟩
        obtain ⟨s, hs⟩ : ∃ s, rowN h C i = s := ⟨_, rfl⟩
        rw [hx] at CW hu hzw
        rw [hs] at hu hz ⊢
        by_cases h0 : i = 0
        · rw [if_pos h0] at hu
          have b0 : ¬ (0 : Int) < (i : Int) := by omega
          have HU : Hid (rowN h C (i + 1) = s ++ x) := hu
          clear hu h1 hs hx h0
          go_wp2_with (go_at_call 76; refine CW.mono ?_; rintro e w1 ⟨rfl, rfl⟩)
          exact ⟨⟨i + 1, hlt, congrArg (Value.int .i64) (Int.natCast_succ i).symm, by rw [HU.out], trivial⟩, by show n - ((i : Int) + 1).toNat < n - ((i : Int)).toNat; omega⟩
        · rw [if_neg h0] at hu
          have b0 : (0 : Int) < (i : Int) := by omega
          have HU : Hid (rowN h C (i + 1) = s ++ ⟨#[44, 32]⟩ ++ x) := hu
          have hz2 : (s ++ ⟨#[44, 32]⟩).size ≤ 20002 := by rw [ByteArray.size_append]; exact Nat.add_le_add hz (Nat.le_refl 2)
          clear hu h1 hs hx h0
          go_wp2_with (go_at_call 76; refine CW.mono ?_; rintro e w1 ⟨rfl, rfl⟩)
          exact ⟨⟨i + 1, hlt, congrArg (Value.int .i64) (Int.natCast_succ i).symm, by rw [HU.out], trivial⟩, by show n - ((i : Int) + 1).toNat < n - ((i : Int)).toNat; omega⟩
      · have b1 : ¬ (i : Int) < (n : Int) := by omega
        obtain rfl : i = n := by omega
        obtain ⟨s, hs⟩ : ∃ s, rowN h C i = s := ⟨_, rfl⟩
        rw [hs] at hz ⊢
        have HS : Hid (rowN h C i = s) := hs
        clear hs
        go_wp2
        go_ret
        exact ⟨by rw [HS.out]; rfl, rfl⟩
set_option maxRecDepth 100000 in
set_option maxHeartbeats 2000000 in
theorem _root_.ByteArray.size_eq_length (s : ByteArray) : s.size = s.toList.length := by rw [Go.ByteArray.toList_eq, Array.length_toList]; rfl
set_option maxRecDepth 100000 in
set_option maxHeartbeats 2000000 in
theorem isName_any (s : ByteArray) (W : World) (hs : s.size ≤ 140737488355328) :
    Calls Tryz.prog 44 #[.string s] W fun e w' => e = .returned (.bool (isNm s)) ∧ w' = W := by
  obtain ⟨n, hn⟩ : ∃ n, s.size = n := ⟨_, rfl⟩
  have HN : Hid (s.size = n ∧ n ≤ 140737488355328) := ⟨hn, by omega⟩
  go_enter Tryz.func44, Tryz.ntmps44
  go_wp2
  go_loopw [3] (fun v3 wr => ∃ i : Nat, i ≤ n ∧ v3 = .int .i64 i ∧ (s.data.toList.take i).all nmB = true ∧ wr = W) (fun v _ => n - (intOf v).toNat)
  case atStart => exact ⟨0, Nat.zero_le _, rfl, by simp, rfl⟩
  case round =>
    obtain ⟨i, hi, rfl, ha, rfl⟩ := hrel
    by_cases hlt : i < n
    · have b1 : (i : Int) < (n : Int) := by omega
      have hl : i < s.data.toList.length := by rw [Array.length_toList]; exact (show i < s.size by omega)
      have ht : (s.data.toList.take (i + 1)).all nmB = nmB s.data.toList[i] := by
        rw [List.take_succ_eq_append_getElem hl, List.all_append, ha]; simp
      have hall : s.data.toList.all nmB = true → nmB s.data.toList[i] = true := fun h => List.all_eq_true.1 h _ (List.getElem_mem hl)
      have HT : Hid _ := ht
      have HALL : Hid _ := hall
      clear ht hall ha
      go_wp2
      all_goals first
        | (refine ⟨⟨i + 1, hlt, congrArg (Value.int .i64) (Int.natCast_succ i).symm, ?_, trivial⟩, by show n - ((i : Int) + 1).toNat < n - ((i : Int)).toNat; omega⟩
           rw [HT.out]
           show nmB s[i] = true
           unfold nmB
           simp only [Bool.or_eq_true, decide_eq_true_eq]
           first | omega | (simp only [bne_eq_false_iff_eq, Bool.not_eq_false', decide_eq_true_eq] at * <;> omega))
        | (go_ret
           refine ⟨?_, rfl⟩
           have hf : isNm s = false := by
             cases hx : isNm s with
             | false => rfl
             | true =>
               exfalso
               unfold isNm at hx
               rw [Bool.and_eq_true] at hx
               have hx1 : nmB s[i] = true := HALL.out hx.1
               unfold nmB at hx1
               simp only [Bool.or_eq_true, decide_eq_true_eq] at hx1
               first | omega | (simp only [bne_iff_ne, ne_eq] at * <;> omega)
           rw [hf]
           rfl)
    · have b1 : ¬ (i : Int) < (n : Int) := by omega
      obtain rfl : i = n := by omega
      rw [List.take_of_length_le (by rw [Array.length_toList]; exact (show s.size ≤ i by omega))] at ha
      have HA : Hid _ := ha
      clear ha
      go_wp2
      go_ret
      refine ⟨?_, rfl⟩
      have hx : (!s.toList.isEmpty) = isNm s := by
        unfold isNm
        rw [HA.out, Bool.true_and]
        cases hs0 : decide (s.size ≠ 0) with
        | true =>
          have h0 : s.size ≠ 0 := of_decide_eq_true hs0
          cases he : s.toList with
          | nil => exact absurd (by rw [ByteArray.size_eq_length, he]; rfl) h0
          | cons a b => rfl
        | false =>
          have h0 : ¬ s.size ≠ 0 := of_decide_eq_false hs0
          cases he : s.toList with
          | nil => rfl
          | cons a b => exact absurd (by rw [ByteArray.size_eq_length, he]; simp) h0
      rw [← hx]
      rfl
end Go.Proofs.YtmlcgcmoioekpaaGreatDoor
namespace Go.Proofs.YtmlcgcmoioekpaaGreatDoor
set_option linter.unusedSimpArgs false
set_option linter.unusedVariables false
open Go.ChangeShapes Go.WideShapes Go.ChangeAt Go.RowKit Go.Pin Go.Pat
theorem prn_bad {p : Pt} (h : chk p ≠ 0) : prn p = (⟨#[]⟩, chk p) := by unfold prn; rw [if_pos h]
theorem prn_name {p : Pt} (h : chk p = 0) (h2 : 4096 < p.nm.size ∨ isNm p.nm = false) : prn p = (⟨#[]⟩, 8) := by unfold prn; rw [if_neg (fun h' => h' h), if_pos h2]
theorem prn_long {p : Pt} (h : chk p = 0) (h2 : ¬ (4096 < p.nm.size ∨ isNm p.nm = false)) (h3 : 4096 < (txt p).size) : prn p = (⟨#[]⟩, 8) := by unfold prn; rw [if_neg (fun h' => h' h), if_neg h2, if_pos h3]
theorem prn_ok {p : Pt} (h : chk p = 0) (h2 : ¬ (4096 < p.nm.size ∨ isNm p.nm = false)) (h3 : ¬ 4096 < (txt p).size) : prn p = (txt p, 0) := by unfold prn; rw [if_neg (fun h' => h' h), if_neg h2, if_neg h3]
set_option maxRecDepth 100000 in
set_option maxHeartbeats 4000000 in
theorem print_any (v : Value) (p : Pt) (W : World) (hR : RdP W v p) (hnz : p.nm.size ≤ 140737488355328) :
    Calls Tryz.prog 17 #[v] W fun e w' => e = .returned (.tuple #[.string (prn p).1, .int .i64 (prn p).2]) ∧ Below W.heap.size W w' := by
  have hCk := fun Y (hY : Below W.heap.size W Y) => check_any v p Y (hR.below hY)
  obtain ⟨v0, v1, vl, rfl, h0, h1, hl⟩ := hR
  obtain ⟨a0, p0, rfl, -, z0, -⟩ := id h0
  obtain ⟨a1, p1, rfl, -, z1, -⟩ := id h1
  obtain ⟨al, cl, rfl, -, zl, -⟩ := id hl
  have hst := pb_start W p.nm (.slice a0 p.b0.length p0) (.slice a1 p.b1.length p1) (.slice al p.ln.length cl)
  have hHL := fun Y (hY : Below W.heap.size W Y) => hl.below hY
  have hH0 := fun Y (hY : Below W.heap.size W Y) => h0.below hY
  have hH1 := fun Y (hY : Below W.heap.size W Y) => h1.below hY
  obtain ⟨q, hq⟩ : ∃ q, W.heap.size = q := ⟨_, rfl⟩
  obtain ⟨nm, hnm⟩ : ∃ nm, p.nm = nm := ⟨_, rfl⟩
  obtain ⟨n0, hn0⟩ : ∃ n0, p.b0.length = n0 := ⟨_, rfl⟩
  obtain ⟨n1, hn1⟩ : ∃ n1, p.b1.length = n1 := ⟨_, rfl⟩
  obtain ⟨L, hLn⟩ : ∃ L, p.ln.length = L := ⟨_, rfl⟩
  simp only [hq, hnm, hn0, hn1, hLn] at hst hHL hH0 hH1 hCk z0 z1 zl hnz ⊢
  obtain ⟨W1, hW1⟩ : ∃ W1, W.alloc (.cells #[.string nm, .slice a0 n0 p0, .slice a1 n1 p1, .slice al L cl] 26) = W1 := ⟨_, rfl⟩
  rw [hW1] at hst
  have HP : Hid (PB q W nm (.slice a0 n0 p0) (.slice a1 n1 p1) (.slice al L cl) W1) := hst
  have HHL : Hid _ := hHL
  have HH0 : Hid _ := hH0
  have HH1 : Hid _ := hH1
  have HEQ : Hid (p.nm = nm ∧ p.b0.length = n0 ∧ p.b1.length = n1 ∧ p.ln.length = L) := ⟨hnm, hn0, hn1, hLn⟩
  have c0 := hst.c0
  have c1 := hst.c1
  have c2 := hst.c2
  have c3 := hst.c3
  have CK := hCk W1 hst.old
  clear hst hHL hH0 hH1 h0 h1 hl hnm hn0 hn1 hLn hCk
  by_cases hck : chk p = 0
  case neg =>
    have HE : Hid (prn p = (⟨#[]⟩, chk p)) := prn_bad hck
    generalize chk p = c at *
    have hcb : (c == 0) = false := by simpa using hck
    clear hck
    go_enter Tryz.func17, Tryz.ntmps17
    go_wp2_with (go_at_call 14; refine CK.mono ?_; rintro e w1 ⟨rfl, hb⟩; have HP1 : Hid (PB q W nm (.slice a0 n0 p0) (.slice a1 n1 p1) (.slice al L cl) w1) := HP.out.below hb; clear hb c0 c1 c2 c3 CK)
    go_ret2
    exact ⟨by rw [HE.out]; rfl, HP1.out.old⟩
  have hsh := chk_shaped hck
  obtain ⟨m0, m1, mp, ml, mt⟩ := shaped_all hsh
  rw [hck] at CK
  have HMT : Hid _ := mt
  have HCK : Hid (chk p = 0 ∧ shaped p = true ∧ p.b0.length ≤ 2 ∧ p.b1.length ≤ 2 ∧ p.ln.length ≤ 24) := ⟨hck, hsh, m0, m1, ml⟩
  clear hck hsh m0 m1 mp ml mt
  by_cases hbig : 4096 < nm.size
  · have HE : Hid (prn p = (⟨#[]⟩, 8)) := prn_name HCK.out.1 (by rw [HEQ.out.1]; exact .inl hbig)
    have b1 : (4096 : Int) < (nm.size : Int) := by omega
    have b2 : decide ((4096 : Int) < (nm.size : Int)) = true := decide_eq_true b1
    go_enter Tryz.func17, Tryz.ntmps17
    go_wp2_with (go_at_call 14; refine CK.mono ?_; rintro e w1 ⟨rfl, hb⟩; have HP1 : Hid (PB q W nm (.slice a0 n0 p0) (.slice a1 n1 p1) (.slice al L cl) w1) := HP.out.below hb; clear hb c0 c1 c2 c3 CK; have c0 := HP1.out.c0)
    go_ret2
    exact ⟨by rw [HE.out]; rfl, HP1.out.old⟩
  have b1 : ¬ (4096 : Int) < (nm.size : Int) := by omega
  have b2 : decide ((4096 : Int) < (nm.size : Int)) = false := decide_eq_false b1
  by_cases hin : isNm nm = true
  case neg =>
    have hin' : isNm nm = false := by simpa using hin
    have HE : Hid (prn p = (⟨#[]⟩, 8)) := prn_name HCK.out.1 (by rw [HEQ.out.1]; exact .inr hin')
    clear hin
    go_enter Tryz.func17, Tryz.ntmps17
    go_wp2_with (first
      | (go_at_call 14; refine CK.mono ?_; rintro e w1 ⟨rfl, hb⟩; have HP1 : Hid (PB q W nm (.slice a0 n0 p0) (.slice a1 n1 p1) (.slice al L cl) w1) := HP.out.below hb; clear hb c0 c1 c2 c3 CK; have c0 := HP1.out.c0)
      | (go_at_call 44; refine (isName_any nm w1 (by omega)).mono ?_; rintro e w2 ⟨rfl, rfl⟩))
    go_ret2
    exact ⟨by rw [HE.out]; rfl, HP1.out.old⟩
  have HNE : Hid (¬ (4096 < p.nm.size ∨ isNm p.nm = false)) := by show ¬ _; rw [HEQ.out.1]; simp [hin]; omega
  obtain ⟨s0, hs0⟩ : ∃ s0, nm ++ ⟨#[58, 10]⟩ = s0 := ⟨_, rfl⟩
  have hz0 : s0.size ≤ 4098 := by rw [← hs0, ByteArray.size_append]; exact Nat.add_le_add (by omega) (Nat.le_refl 2)
  have HS0 : Hid (nm ++ ⟨#[58, 10]⟩ = s0) := hs0
  go_enter Tryz.func17, Tryz.ntmps17
  go_upto_region 7 with (first
    | (go_at_call 14; refine CK.mono ?_; rintro e w1 ⟨rfl, hb⟩; have HP1 : Hid (PB q W nm (.slice a0 n0 p0) (.slice a1 n1 p1) (.slice al L cl) w1) := HP.out.below hb; clear hb c0 c1 c2 c3 CK; have c0 := HP1.out.c0)
    | (go_at_call 44; refine (isName_any nm w1 (by omega)).mono ?_; rintro e w2 ⟨rfl, rfl⟩))
  have HP1' : Hid (PB q W nm (.slice a0 n0 p0) (.slice a1 n1 p1) (.slice al L cl) w2) := HP1.out
  have c1 := HP1.out.c1
  have c2 := HP1.out.c2
  have c3 := HP1.out.c3
  have hR0 := HH0.out w2 HP1.out.old
  have hR1 := HH1.out w2 HP1.out.old
  have CR0 := row_any hR0 (by have := HCK.out; omega) 0
  have CR1 := row_any hR1 (by have := HCK.out; omega) 1
  obtain ⟨s1, hs1⟩ : ∃ s1, bef s0 0 p.b0 = s1 := ⟨_, rfl⟩
  obtain ⟨s2, hs2⟩ : ∃ s2, bef s1 1 p.b1 = s2 := ⟨_, rfl⟩
  have HS : Hid (bef s0 0 p.b0 = s1 ∧ bef s1 1 p.b1 = s2) := ⟨hs1, hs2⟩
  have hz1 : s1.size ≤ 4114 := by rw [← hs1]; have := bef_size s0 0 p.b0 (by have := HCK.out; omega); omega
  have hz2 : s2.size ≤ 4130 := by rw [← hs2]; have := bef_size s1 1 p.b1 (by have := HCK.out; omega); omega
  have hr0 := row_size 0 p.b0
  have hr1 := row_size 1 p.b1
  obtain ⟨r0, hro0⟩ : ∃ r0, row 0 p.b0 = r0 := ⟨_, rfl⟩
  obtain ⟨r1, hro1⟩ : ∃ r1, row 1 p.b1 = r1 := ⟨_, rfl⟩
  unfold bef at hs1 hs2
  have hm0 := HCK.out.2.2.1
  have hm1 := HCK.out.2.2.2.1
  simp only [hro0, hro1, HEQ.out.2.1, HEQ.out.2.2.1] at CR0 CR1 hr0 hr1 hs1 hs2 hm0 hm1
  clear hR0 hR1 hro0 hro1 hs0
  go_wp2
  go_loopw [5, 6] (fun v5 v6 wr => wr = w2 ∧ ((v6 = .int .i64 0 ∧ v5 = .string s0) ∨ (v6 = .int .i64 1 ∧ v5 = .string s1) ∨ (v6 = .int .i64 2 ∧ v5 = .string s2))) (fun _ v _ => 2 - (intOf v).toNat)
  case atStart => exact ⟨rfl, .inl ⟨rfl, rfl⟩⟩
  case round =>
    obtain ⟨rfl, hr⟩ := hrel
    rcases hr with ⟨rfl, rfl⟩ | ⟨rfl, rfl⟩ | ⟨rfl, rfl⟩
    · clear hs2
      by_cases hn : n0 = 0
      · have t0 : ¬ (0 : Int) < (n0 : Int) := by omega
        rw [if_pos hn] at hs1
        clear hn
        go_wp2
        exact ⟨⟨trivial, .inr (.inl ⟨rfl, by rw [hs1]⟩)⟩, by decide⟩
      · have t0 : (0 : Int) < (n0 : Int) := by omega
        rw [if_neg hn] at hs1
        clear hn
        go_wp2_with (go_at_call 45; refine CR0.mono ?_; rintro e w3 ⟨rfl, rfl⟩)
        exact ⟨⟨trivial, .inr (.inl ⟨rfl, rfl⟩)⟩, by decide⟩
    · clear hs1
      by_cases hn : n1 = 0
      · have t0 : ¬ (0 : Int) < (n1 : Int) := by omega
        rw [if_pos hn] at hs2
        clear hn
        go_wp2
        exact ⟨⟨trivial, .inr (.inr ⟨rfl, by rw [hs2]⟩)⟩, by decide⟩
      · have t0 : (0 : Int) < (n1 : Int) := by omega
        rw [if_neg hn] at hs2
        clear hn
        go_wp2_with (go_at_call 45; refine CR1.mono ?_; rintro e w3 ⟨rfl, rfl⟩)
        exact ⟨⟨trivial, .inr (.inr ⟨rfl, rfl⟩)⟩, by decide⟩
    · clear hs1 hs2
      obtain ⟨s3, hs3⟩ : ∃ s3, txN p 0 = s3 := ⟨_, rfl⟩
      have hd : (if 0 < n0 + n1 then s2 ++ ⟨#[32, 32, 46, 46, 46, 10]⟩ else s2) = s3 := by
        rw [← hs3]
        show _ = txH p
        unfold txH dots
        rw [HEQ.out.1, HS0.out, HS.out.1, HS.out.2, HEQ.out.2.1, HEQ.out.2.2.1]
      have HS3 : Hid (txN p 0 = s3) := hs3
      have HZ : Hid (∀ i, i ≤ L → (txN p i).size ≤ 10000) := fun i hi => by
        have := txN_size HCK.out.2.1 (by rw [HEQ.out.1]; omega) i (by rw [HEQ.out.2.2.2]; exact hi)
        have h24 := HCK.out.2.2.2.2
        rw [HEQ.out.2.2.2] at h24
        omega
      by_cases hd0 : 0 < n0 + n1
      · have t0 : (0 : Int) < (n0 : Int) + (n1 : Int) := by omega
        rw [if_pos hd0] at hd
        clear hd0 hs3
        go_wp2
        clear t0 hd
        go_loopw [5, 7] (fun v5 v7 wr => ∃ i : Nat, i ≤ L ∧ v7 = .int .i64 i ∧ v5 = .string (txN p i) ∧ PB q W nm (.slice a0 n0 p0) (.slice a1 n1 p1) (.slice al L cl) wr) (fun _ v _ => L - (intOf v).toNat)
        case atStart => exact ⟨0, Nat.zero_le _, rfl, by rw [HS3.out], HP1'.out⟩
        case round =>
          obtain ⟨i, hi, rfl, rfl, hp⟩ := hrel
          have HPR : Hid (PB q W nm (.slice a0 n0 p0) (.slice a1 n1 p1) (.slice al L cl) wr) := hp
          have d3 := hp.c3
          have hz := HZ.out i hi
          by_cases hlt : i < L
          · have b9 : (i : Int) < (L : Int) := by omega
            obtain ⟨b, o, a2, n2, k2, rfl, hc, hn, hn2⟩ := (HHL.out wr hp.old).at hlt
            have hmt := HMT.out _ (getD_mem (L := p.ln) (i := i) (by rw [HEQ.out.2.2.2]; exact hlt))
            have HRW : Hid (∀ Y, Below wr.heap.size wr Y → _) := fun Y hY => row_any (hn.below hY) (by omega) (p.ln.getD i (0, [])).1
            have hzr := row_size (p.ln.getD i (0, [])).1 (p.ln.getD i (0, [])).2
            have HU : Hid (txN p (i + 1) = txN p i ++ row (p.ln.getD i (0, [])).1 (p.ln.getD i (0, [])).2) := rfl
            have HC : Hid _ := hc
            obtain ⟨x, hx⟩ : ∃ x, row (p.ln.getD i (0, [])).1 (p.ln.getD i (0, [])).2 = x := ⟨_, rfl⟩
            obtain ⟨s, hs⟩ : ∃ s, txN p i = s := ⟨_, rfl⟩
            rw [hx] at HRW HU hzr
            rw [hs] at HU hz ⊢
            have hzx : x.size ≤ 126 := by omega
            generalize (p.ln.getD i (0, [])).1 = f at *
            clear hc hn hn2 hmt hzr hx hs hp c1 c2 c3 c0 CR0 CR1 hr0 hr1
            go_wp2
            refine Go.Pin.wp_region_cls (fun Y => Below wr.heap.size wr Y) (by kernel_rfl) (by kernel_rfl) ((Below.refl _ _).drew) ?_
            intro Sq fq hNq hRq hSq
            have z3 := fun x => (HPR.out.below (hRq x)).c3
            have k0 := fun x => (HC.out _ (hRq x)).1
            have k1 := fun x => (HC.out _ (hRq x)).2
            have CF := fun x => HRW.out (fq x) (hRq x)
            repeat (go_big_quiet_step (exact (CF _).mono (fun e w' h => ⟨h.1, hSq _ (by rw [h.2]; exact hRq _)⟩)))
            refine wpQuiet_nil ?_
            intro _ hw'
            obtain ⟨xq, hw''⟩ := hw'
            subst hw''
            have HYq := hRq xq
            generalize fq xq = Y at HYq ⊢
            clear hRq hSq hNq xq fq Sq z3 k0 k1 CF d3
            have HY : Hid (Below wr.heap.size wr Y) := HYq
            clear HYq
            go_wp2
            exact ⟨⟨i + 1, hlt, congrArg (Value.int .i64) (Int.natCast_succ i).symm, by rw [HU.out], HPR.out.below HY.out⟩, by show L - ((i : Int) + 1).toNat < L - ((i : Int)).toNat; omega⟩
          · have b9 : ¬ (i : Int) < (L : Int) := by omega
            obtain rfl : i = L := by omega
            have ht : txN p i = txt p := by rw [← HEQ.out.2.2.2]; rfl
            rw [ht] at hz ⊢
            by_cases hbg : 4096 < (txt p).size
            · have HE : Hid (prn p = (⟨#[]⟩, 8)) := prn_long HCK.out.1 HNE.out hbg
              have t9 : (4096 : Int) < ((txt p).size : Int) := by omega
              generalize txt p = s at *
              clear hp ht
              go_wp2
              go_ret2
              exact ⟨by rw [HE.out]; rfl, HPR.out.old⟩
            · have HE : Hid (prn p = (txt p, 0)) := prn_ok HCK.out.1 HNE.out hbg
              have t9 : ¬ (4096 : Int) < ((txt p).size : Int) := by omega
              generalize txt p = s at *
              clear hp ht
              go_wp2
              go_ret2
              exact ⟨by rw [HE.out]; rfl, HPR.out.old⟩
      · have t0 : ¬ (0 : Int) < (n0 : Int) + (n1 : Int) := by omega
        rw [if_neg hd0] at hd
        have HD : Hid (s2 = s3) := hd
        clear hd0 hs3 hd
        go_wp2
        clear t0
        go_loopw [5, 7] (fun v5 v7 wr => ∃ i : Nat, i ≤ L ∧ v7 = .int .i64 i ∧ v5 = .string (txN p i) ∧ PB q W nm (.slice a0 n0 p0) (.slice a1 n1 p1) (.slice al L cl) wr) (fun _ v _ => L - (intOf v).toNat)
        case atStart => exact ⟨0, Nat.zero_le _, rfl, by rw [HS3.out, HD.out], HP1'.out⟩
        case round =>
          obtain ⟨i, hi, rfl, rfl, hp⟩ := hrel
          have HPR : Hid (PB q W nm (.slice a0 n0 p0) (.slice a1 n1 p1) (.slice al L cl) wr) := hp
          have d3 := hp.c3
          have hz := HZ.out i hi
          by_cases hlt : i < L
          · have b9 : (i : Int) < (L : Int) := by omega
            obtain ⟨b, o, a2, n2, k2, rfl, hc, hn, hn2⟩ := (HHL.out wr hp.old).at hlt
            have hmt := HMT.out _ (getD_mem (L := p.ln) (i := i) (by rw [HEQ.out.2.2.2]; exact hlt))
            have HRW : Hid (∀ Y, Below wr.heap.size wr Y → _) := fun Y hY => row_any (hn.below hY) (by omega) (p.ln.getD i (0, [])).1
            have hzr := row_size (p.ln.getD i (0, [])).1 (p.ln.getD i (0, [])).2
            have HU : Hid (txN p (i + 1) = txN p i ++ row (p.ln.getD i (0, [])).1 (p.ln.getD i (0, [])).2) := rfl
            have HC : Hid _ := hc
            obtain ⟨x, hx⟩ : ∃ x, row (p.ln.getD i (0, [])).1 (p.ln.getD i (0, [])).2 = x := ⟨_, rfl⟩
            obtain ⟨s, hs⟩ : ∃ s, txN p i = s := ⟨_, rfl⟩
            rw [hx] at HRW HU hzr
            rw [hs] at HU hz ⊢
            have hzx : x.size ≤ 126 := by omega
            generalize (p.ln.getD i (0, [])).1 = f at *
            clear hc hn hn2 hmt hzr hx hs hp c1 c2 c3 c0 CR0 CR1 hr0 hr1
            go_wp2
            refine Go.Pin.wp_region_cls (fun Y => Below wr.heap.size wr Y) (by kernel_rfl) (by kernel_rfl) ((Below.refl _ _).drew) ?_
            intro Sq fq hNq hRq hSq
            have z3 := fun x => (HPR.out.below (hRq x)).c3
            have k0 := fun x => (HC.out _ (hRq x)).1
            have k1 := fun x => (HC.out _ (hRq x)).2
            have CF := fun x => HRW.out (fq x) (hRq x)
            repeat (go_big_quiet_step (exact (CF _).mono (fun e w' h => ⟨h.1, hSq _ (by rw [h.2]; exact hRq _)⟩)))
            refine wpQuiet_nil ?_
            intro _ hw'
            obtain ⟨xq, hw''⟩ := hw'
            subst hw''
            have HYq := hRq xq
            generalize fq xq = Y at HYq ⊢
            clear hRq hSq hNq xq fq Sq z3 k0 k1 CF d3
            have HY : Hid (Below wr.heap.size wr Y) := HYq
            clear HYq
            go_wp2
            exact ⟨⟨i + 1, hlt, congrArg (Value.int .i64) (Int.natCast_succ i).symm, by rw [HU.out], HPR.out.below HY.out⟩, by show L - ((i : Int) + 1).toNat < L - ((i : Int)).toNat; omega⟩
          · have b9 : ¬ (i : Int) < (L : Int) := by omega
            obtain rfl : i = L := by omega
            have ht : txN p i = txt p := by rw [← HEQ.out.2.2.2]; rfl
            rw [ht] at hz ⊢
            by_cases hbg : 4096 < (txt p).size
            · have HE : Hid (prn p = (⟨#[]⟩, 8)) := prn_long HCK.out.1 HNE.out hbg
              have t9 : (4096 : Int) < ((txt p).size : Int) := by omega
              generalize txt p = s at *
              clear hp ht
              go_wp2
              go_ret2
              exact ⟨by rw [HE.out]; rfl, HPR.out.old⟩
            · have HE : Hid (prn p = (txt p, 0)) := prn_ok HCK.out.1 HNE.out hbg
              have t9 : ¬ (4096 : Int) < ((txt p).size : Int) := by omega
              generalize txt p = s at *
              clear hp ht
              go_wp2
              go_ret2
              exact ⟨by rw [HE.out]; rfl, HPR.out.old⟩
end Go.Proofs.YtmlcgcmoioekpaaGreatDoor
namespace Go.Proofs.YtmlcgcmoioekpaaGreatDoor
set_option linter.unusedSimpArgs false
set_option linter.unusedVariables false
set_option maxRecDepth 100000
open Go.ChangeShapes Go.WideShapes Go.ChangeAt Go.RowKit Go.Pin Go.Pat Go.Deep
theorem prn_isC (p : Pt) : IsC (prn p).2 := by
  unfold prn
  split
  · exact chk_isC p
  · split
    · exact .inr (.inr (.inl rfl))
    · split
      · exact .inr (.inr (.inl rfl))
      · exact .inl rfl
set_option maxRecDepth 100000 in
set_option maxHeartbeats 4000000 in
theorem prints_walk {ea : Int → Addr} (v : Value) (p : Pt) (W : World) (hE : Errs ea W) (hR : RdP W v p) (hF : PrtC ea) (hK : KnC ea) :
    Calls Tryz.prog 4 #[v] W fun e w' => e = .returned (.bool true) ∧ Below W.heap.size W w' := by
  obtain ⟨a0, p0, a1, p1, al, cl, rfl⟩ := hR.sl
  have hst := pb_start W p.nm (.slice a0 p.b0.length p0) (.slice a1 p.b1.length p1) (.slice al p.ln.length cl)
  obtain ⟨q, hq⟩ : ∃ q, W.heap.size = q := ⟨_, rfl⟩
  obtain ⟨W1, hW1⟩ : ∃ W1, W.alloc (.cells #[.string p.nm, .slice a0 p.b0.length p0, .slice a1 p.b1.length p1, .slice al p.ln.length cl] 26) = W1 := ⟨_, rfl⟩
  simp only [hq, hW1] at hst
  have HP1 : Hid (PB q W p.nm (.slice a0 p.b0.length p0) (.slice a1 p.b1.length p1) (.slice al p.ln.length cl) W1) := hst
  have HR : Hid (∀ Y, Below q W Y → RdP Y (.agg #[.string p.nm, .slice a0 p.b0.length p0, .slice a1 p.b1.length p1, .slice al p.ln.length cl]) p) := fun Y hY => hR.below (by rw [hq]; exact hY)
  have HE : Hid (∀ Y, Below q W Y → Errs ea Y) := fun Y hY => hE.below (by rw [hq]; exact hY)
  have HK : Hid (KnC ea) := hK
  have HF : Hid (PrtC ea) := hF
  have HWQ : Hid (W.heap.size = q) := hq
  have d0 := hst.c0
  have d1 := hst.c1
  have d2 := hst.c2
  have d3 := hst.c3
  have CM := much_any _ p W1 (HR.out W1 hst.old)
  obtain ⟨q1, hq1⟩ : ∃ q1, W1.heap.size = q1 := ⟨_, rfl⟩
  rw [hq1] at CM
  rw [hq]
  clear hst hF hE hK hR
  go_enter Tryz.func4, Tryz.ntmps4
  go_upto_if 9 with (go_at_call 9; refine CM.mono ?_; rintro e w2 ⟨b, rfl, hs, hb⟩; have HS : Hid (b = false → Sml p) := hs; have HP2 : Hid (PB q W p.nm (.slice a0 p.b0.length p0) (.slice a1 p.b1.length p1) (.slice al p.ln.length cl) w2) := HP1.out.below (by rw [hq1]; exact hb); clear hs hb CM d0 d1 d2 d3)
  rcases b with _ | _
  case true =>
    have CKN := HK.out w2 (HE.out w2 HP2.out.old)
    go_wp2_with (go_at_call 10; refine CKN.mono ?_; rintro e w6 ⟨rfl, hb⟩; have HB6 : Hid (Below q W w6) := HP2.out.old.trans (hb.mono (by have := HP2.out.old.size; have := HWQ.out; omega)); clear hb CKN)
    go_ret
    exact ⟨rfl, HB6.out⟩
  have hs := HS.out rfl
  have d0 := HP2.out.c0
  have d1 := HP2.out.c1
  have d2 := HP2.out.c2
  have d3 := HP2.out.c3
  have CR := roomy_rm (HR.out w2 HP2.out.old) hs
  obtain ⟨q2, hq2⟩ : ∃ q2, w2.heap.size = q2 := ⟨_, rfl⟩
  rw [hq2] at CR
  have HSM : Hid (Sml p) := hs
  clear hs
  go_upto_region 4 with (go_at_call 11; refine CR.mono ?_; rintro e w3 ⟨u, rfl, hr, hb⟩; obtain ⟨c0, l0, c1, l1, cv, ll, rfl⟩ := hr.sl; have HR3 : Hid (Rmy w3 _ p) := hr; have HP3 : Hid (PB q W p.nm (.slice a0 p.b0.length p0) (.slice a1 p.b1.length p1) (.slice al p.ln.length cl) w3) := HP2.out.below (by rw [hq2]; exact hb); clear hr hb CR d0 d1 d2 d3)
  have hpb := pb_start w3 p.nm (.slice c0 p.b0.length l0) (.slice c1 p.b1.length l1) (.slice cv p.ln.length ll)
  obtain ⟨q3, hq3⟩ : ∃ q3, w3.heap.size = q3 := ⟨_, rfl⟩
  obtain ⟨W4, hW4⟩ : ∃ W4, w3.alloc (.cells #[.string p.nm, .slice c0 p.b0.length l0, .slice c1 p.b1.length l1, .slice cv p.ln.length ll] 26) = W4 := ⟨_, rfl⟩
  simp only [hq3, hW4] at hpb ⊢
  have HQ4 : Hid (PB q3 w3 p.nm (.slice c0 p.b0.length l0) (.slice c1 p.b1.length l1) (.slice cv p.ln.length ll) W4) := hpb
  have HP4 : Hid (PB q W p.nm (.slice a0 p.b0.length p0) (.slice a1 p.b1.length p1) (.slice al p.ln.length cl) W4) := HP3.out.below (by rw [hq3]; exact hpb.old)
  have HRM : Hid (∀ Y, Below q3 w3 Y → Rmy Y (.agg #[.string p.nm, .slice c0 p.b0.length l0, .slice c1 p.b1.length l1, .slice cv p.ln.length ll]) p) := fun Y hY => HR3.out.below (by rw [hq3]; exact hY)
  have CP := HF.out _ p W4 (HE.out W4 HP4.out.old) (HRM.out W4 HQ4.out.old).rd (by have := HSM.out.2.2.2.1; omega)
  have CQ : ∀ Y, Below q W Y → _ := fun Y hY => print_any _ p Y (HR.out Y hY) (by have := HSM.out.2.2.2.1; omega)
  have hcc := prn_isC p
  obtain ⟨S, hS⟩ : ∃ S, (prn p).1 = S := ⟨_, rfl⟩
  obtain ⟨ec, hec⟩ : ∃ ec, (prn p).2 = ec := ⟨_, rfl⟩
  simp only [hS, hec] at CP CQ hcc
  obtain ⟨q4, hq4⟩ : ∃ q4, W4.heap.size = q4 := ⟨_, rfl⟩
  rw [hq4] at CP
  have HCQ : Hid _ := CQ
  have d0 := HQ4.out.c0
  have d1 := HQ4.out.c1
  have d2 := HQ4.out.c2
  have d3 := HQ4.out.c3
  clear hpb hW4 hq3 CQ
  go_upto_region 5 with (go_at_call 16; refine CP.mono ?_; rintro e w5 ⟨rfl, hb⟩; have HP5 : Hid (PB q W p.nm (.slice a0 p.b0.length p0) (.slice a1 p.b1.length p1) (.slice al p.ln.length cl) w5) := HP4.out.below (by rw [hq4]; exact hb); have HQ5 : Hid (PB q3 w3 p.nm (.slice c0 p.b0.length l0) (.slice c1 p.b1.length l1) (.slice cv p.ln.length ll) w5) := HQ4.out.below (by rw [hq4]; exact hb); clear hb CP d0 d1 d2 d3)
  have CQ5 := HCQ.out w5 HP5.out.old
  obtain ⟨q5, hq5⟩ : ∃ q5, w5.heap.size = q5 := ⟨_, rfl⟩
  rw [hq5] at CQ5
  have d0 := HP5.out.c0
  have d1 := HP5.out.c1
  have d2 := HP5.out.c2
  have d3 := HP5.out.c3
  go_upto_region 6 with (go_at_call 17; refine CQ5.mono ?_; rintro e w6 ⟨rfl, hb⟩; have HP6 : Hid (PB q W p.nm (.slice a0 p.b0.length p0) (.slice a1 p.b1.length p1) (.slice al p.ln.length cl) w6) := HP5.out.below (by rw [hq5]; exact hb); have HQ6 : Hid (PB q3 w3 p.nm (.slice c0 p.b0.length l0) (.slice c1 p.b1.length l1) (.slice cv p.ln.length ll) w6) := HQ5.out.below (by rw [hq5]; exact hb); clear hb CQ5 d0 d1 d2 d3)
  have CC := code_any (HE.out w6 HP6.out.old) ec hcc
  have CL := left_true (HRM.out w6 HQ6.out.old) (HR.out w6 HP6.out.old)
  have d0 := HP6.out.c0
  have d1 := HP6.out.c1
  have d2 := HP6.out.c2
  have d3 := HP6.out.c3
  have f0 := HQ6.out.c0
  have f1 := HQ6.out.c1
  have f2 := HQ6.out.c2
  have f3 := HQ6.out.c3
  have hss : (S.toList == S.toList) = true := by simp
  have hee : (ec == ec) = true := by simp
  go_wp2_with (first
    | (go_at_call 12; refine CC.mono ?_; rintro e wc ⟨rfl, rfl⟩)
    | (go_at_call 15; refine CL.mono ?_; rintro e w7 ⟨rfl, hb⟩; have HP7 : Hid (PB q W p.nm (.slice a0 p.b0.length p0) (.slice a1 p.b1.length p1) (.slice al p.ln.length cl) w7) := HP6.out.below hb; have CKN := HK.out w7 (HE.out w7 HP7.out.old); clear hb CL d0 d1 d2 d3 f0 f1 f2 f3)
    | (go_at_call 10; refine CKN.mono ?_; rintro e w8 ⟨rfl, hb⟩; have HB8 : Hid (Below q W w8) := HP7.out.old.trans (hb.mono (by have := HP7.out.old.size; have := HWQ.out; omega)); clear hb CKN))
  go_ret
  exact ⟨rfl, HB8.out⟩
end Go.Proofs.YtmlcgcmoioekpaaGreatDoor
