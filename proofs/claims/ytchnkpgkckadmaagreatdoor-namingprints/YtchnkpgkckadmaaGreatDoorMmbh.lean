import Derived.Test.YtchnkpgkckadmaaGreatDoorMmbg
import Derived.Test.YtchnkpgkckadmaaGreatDoorMmaa
import Derived.Test.YtchnkpgkckadmaaGreatDoorMmad
import Derived.Test.YtchnkpgkckadmaaGreatDoorMmaf
namespace Go.Proofs.YtchnkpgkckadmaaGreatDoor
set_option linter.unusedSimpArgs false
set_option linter.unusedVariables false
open Go.ChangeShapes Go.WideShapes Go.ChangeAt Go.RowKit Go.Pin Go.Pat
theorem strP (s : ByteArray) : (s.toList == [112, 115, 107]) = decide (s = pskW) := by rw [← str_eq, show pskW.toList = [112, 115, 107] by simp [pskW]]
set_option maxRecDepth 100000 in
set_option maxHeartbeats 4000000 in
theorem number_any (s : ByteArray) (W : World) (hs : s.size ≤ 140737488355328) :
    Calls Tryz.prog 38 #[.string s] W fun e w' => e = .returned (.int .i64 (nmb s)) ∧ w' = W := by
  have hN : nmb s = if s.size < 4 ∨ 6 < s.size then -1 else if s.extract 0 3 ≠ pskW then -1 else if byt s 3 = 48 ∧ 4 < s.size then -1 else match dgN s (s.size - 3) with | none => -1 | some n => (n : Int) := rfl
  have sP := strP (s.extract 0 3)
  obtain ⟨n, hn⟩ : ∃ n, s.size = n := ⟨_, rfl⟩
  rw [hn] at hN hs
  by_cases h4 : n < 4
  · have HN : Hid (nmb s = -1) := by show nmb s = -1; rw [hN, if_pos (.inl h4)]
    have t0 : (n : Int) < 4 := by omega
    have t1 : decide ((n : Int) < 4) = true := decide_eq_true t0
    clear hN sP h4
    go_enter Tryz.func38, Tryz.ntmps38
    go_wp2
    go_ret
    exact ⟨by rw [HN.out]; rfl, rfl⟩
  have t0 : ¬ (n : Int) < 4 := by omega
  have t1 : decide ((n : Int) < 4) = false := decide_eq_false t0
  by_cases h6 : 6 < n
  · have HN : Hid (nmb s = -1) := by show nmb s = -1; rw [hN, if_pos (.inr h6)]
    have t2 : (6 : Int) < (n : Int) := by omega
    have t3 : decide ((6 : Int) < (n : Int)) = true := decide_eq_true t2
    clear hN sP h4 h6
    go_enter Tryz.func38, Tryz.ntmps38
    go_wp2
    go_ret
    exact ⟨by rw [HN.out]; rfl, rfl⟩
  have t2 : ¬ (6 : Int) < (n : Int) := by omega
  have t3 : decide ((6 : Int) < (n : Int)) = false := decide_eq_false t2
  rw [if_neg (by omega)] at hN
  by_cases hp : s.extract 0 3 = pskW
  case neg =>
    have HN : Hid (nmb s = -1) := by show nmb s = -1; rw [hN, if_pos hp]
    rw [decide_eq_false hp] at sP
    clear hN h4 h6 hp
    go_enter Tryz.func38, Tryz.ntmps38
    go_wp2
    go_ret
    exact ⟨by rw [HN.out]; rfl, rfl⟩
  rw [decide_eq_true hp] at sP
  rw [if_neg (fun h => h hp)] at hN
  have h3l : 3 < s.size := by omega
  have hb3 := byt_get s 3 h3l
  by_cases hz : byt s 3 = 48 ∧ 4 < n
  · have HN : Hid (nmb s = -1) := by show nmb s = -1; rw [hN, if_pos hz]
    have t4 : ((s[3].toNat : Int) == 48) = true := by rw [← hb3, hz.1]; rfl
    have t5 : (4 : Int) < (n : Int) := by omega
    have t6 : decide ((4 : Int) < (n : Int)) = true := decide_eq_true t5
    clear hN h4 h6 hp hz hb3
    go_enter Tryz.func38, Tryz.ntmps38
    go_wp2
    go_ret
    exact ⟨by rw [HN.out]; rfl, rfl⟩
  rw [if_neg hz] at hN
  have HN : Hid _ := hN
  have HNN : Hid (s.size = n ∧ ¬ n < 4 ∧ ¬ 6 < n) := ⟨hn, h4, h6⟩
  have hT : ∃ b c, ((s[3].toNat : Int) == 48) = b ∧ decide ((4 : Int) < (n : Int)) = c ∧ (b && c) = false := by
    refine ⟨_, _, rfl, rfl, ?_⟩
    by_cases hx : byt s 3 = 48
    · have : ¬ (4 : Int) < (n : Int) := by omega
      rw [decide_eq_false this, Bool.and_false]
    · have : ((s[3].toNat : Int) == 48) = false := by rw [← hb3]; simp; omega
      rw [this, Bool.false_and]
  obtain ⟨b, c, t4, t5, t6⟩ := hT
  clear hN h4 h6 hp hz hb3
  rcases b with _ | _ <;> rcases c with _ | _
  case true.true => cases t6
  all_goals
    clear t6
    go_enter Tryz.func38, Tryz.ntmps38
    go_wp2
    clear t4 t5 sP
    go_loopw [3, 4] (fun v3 v4 wr => ∃ (i m : Nat), 3 + i ≤ n ∧ v4 = .int .i64 ((3 + i : Nat) : Int) ∧ v3 = .int .i64 (m : Int) ∧ dgN s i = some m ∧ wr = W) (fun _ v _ => n - (intOf v).toNat)
    case atStart => exact ⟨0, 0, by omega, rfl, rfl, rfl, rfl⟩
    case round =>
      obtain ⟨i, m, hi, rfl, rfl, hd, rfl⟩ := hrel
      have hml := dgN_le s i m hd
      have hi3 : i ≤ 3 := by omega
      have hm1000 : m < 1000 := Nat.lt_of_lt_of_le hml (by have : 10 ^ i ≤ 10 ^ 3 := Nat.pow_le_pow_right (by decide) hi3; simpa using this)
      obtain ⟨k, hk⟩ : ∃ k, 3 + i = k := ⟨_, rfl⟩
      rw [hk] at hi ⊢
      by_cases hlt : k < n
      · have b1 : (k : Int) < (n : Int) := by omega
        have hkl : k < s.size := by omega
        have hbk := byt_get s k hkl
        have hu : dgN s (i + 1) = if byt s (3 + i) < 48 ∨ 57 < byt s (3 + i) then none else some (10 * m + byt s (3 + i) - 48) := by
          show (match dgN s i with | none => none | some n => _) = _
          rw [hd]
        rw [hk, hbk] at hu
        have hx256 : s[k].toNat < 256 := s[k].toNat_lt
        obtain ⟨x, hx⟩ : ∃ x, s[k].toNat = x := ⟨_, rfl⟩
        rw [hx] at hu hx256
        clear hd hbk hml
        by_cases h48 : x < 48
        · have HF : Hid (nmb s = -1) := by
            have h0 : dgN s (i + 1) = none := by rw [hu, if_pos (.inl h48)]
            have h1 := dgN_mono s (n - 3 - (i + 1)) (i + 1) h0
            rw [show i + 1 + (n - 3 - (i + 1)) = n - 3 by omega] at h1
            show nmb s = -1
            rw [HN.out, h1]
          have g1 : (x : Int) < 48 := by omega
          have g2 : decide ((x : Int) < 48) = true := decide_eq_true g1
          clear hu
          go_wp2
          go_ret
          exact ⟨by rw [HF.out]; rfl, rfl⟩
        · have g1 : ¬ (x : Int) < 48 := by omega
          have g2 : decide ((x : Int) < 48) = false := decide_eq_false g1
          by_cases h57 : 57 < x
          · have HF : Hid (nmb s = -1) := by
              have h0 : dgN s (i + 1) = none := by rw [hu, if_pos (.inr h57)]
              have h1 := dgN_mono s (n - 3 - (i + 1)) (i + 1) h0
              rw [show i + 1 + (n - 3 - (i + 1)) = n - 3 by omega] at h1
              show nmb s = -1
              rw [HN.out, h1]
            have g3 : (57 : Int) < (x : Int) := by omega
            have g4 : decide ((57 : Int) < (x : Int)) = true := decide_eq_true g3
            clear hu
            go_wp2
            go_ret
            exact ⟨by rw [HF.out]; rfl, rfl⟩
          · have g3 : ¬ (57 : Int) < (x : Int) := by omega
            have g4 : decide ((57 : Int) < (x : Int)) = false := decide_eq_false g3
            rw [if_neg (by omega)] at hu
            have HU : Hid _ := hu
            have HK : Hid (3 + i = k) := hk
            clear hu hk
            go_wp2
            refine ⟨⟨i + 1, 10 * m + x - 48, by have := HK.out; omega, ?_, ?_, HU.out, trivial⟩, ?_⟩
            · have := HK.out; exact congrArg (Value.int .i64) (by omega)
            · exact congrArg (Value.int .i64) (by omega)
            · show n - ((k : Int) + 1).toNat < n - ((k : Int)).toNat; omega
      · have b1 : ¬ (k : Int) < (n : Int) := by omega
        have HF : Hid (nmb s = (m : Int)) := by
          show nmb s = (m : Int)
          rw [HN.out, show n - 3 = i by omega, hd]
        clear hd
        go_wp2
        go_ret
        exact ⟨by rw [HF.out]; rfl, rfl⟩
end Go.Proofs.YtchnkpgkckadmaaGreatDoor
namespace Go.Proofs.YtchnkpgkckadmaaGreatDoor
set_option linter.unusedSimpArgs false
set_option linter.unusedVariables false
set_option maxRecDepth 100000
open Go.ChangeShapes Go.WideShapes Go.ChangeAt Go.RowKit Go.Pin Go.Pat
theorem upper_any (c : Nat) (hc : c < 256) (W : World) :
    Calls Tryz.prog 17 #[.int .u8 c] W fun e w' => e = .returned (.bool (upB c)) ∧ w' = W := by
  by_cases h1 : 65 ≤ c
  · have ih1 : (65 : Int) ≤ (c : Int) := by omega
    by_cases h2 : c ≤ 90
    · have ih2 : (c : Int) ≤ 90 := by omega
      have HV : Hid (upB c = true) := by show upB c = true; unfold upB; simp; omega
      clear h1 h2
      go_enter Tryz.func17, Tryz.ntmps17
      go_wp2
      go_ret
      exact ⟨by rw [HV.out]; rfl, rfl⟩
    · have ih2 : ¬ (c : Int) ≤ 90 := by omega
      by_cases h3 : 48 ≤ c
      · have ih3 : (48 : Int) ≤ (c : Int) := by omega
        by_cases h4 : c ≤ 57
        · have ih4 : (c : Int) ≤ 57 := by omega
          have HV : Hid (upB c = true) := by show upB c = true; unfold upB; simp; omega
          clear h1 h2 h3 h4
          go_enter Tryz.func17, Tryz.ntmps17
          go_wp2
          go_ret
          exact ⟨by rw [HV.out]; rfl, rfl⟩
        · have ih4 : ¬ (c : Int) ≤ 57 := by omega
          have HV : Hid (upB c = false) := by show upB c = false; unfold upB; simp; omega
          clear h1 h2 h3 h4
          go_enter Tryz.func17, Tryz.ntmps17
          go_wp2
          go_ret
          exact ⟨by rw [HV.out]; rfl, rfl⟩
      · have ih3 : ¬ (48 : Int) ≤ (c : Int) := by omega
        have HV : Hid (upB c = false) := by show upB c = false; unfold upB; simp; omega
        clear h1 h2 h3
        go_enter Tryz.func17, Tryz.ntmps17
        go_wp2
        go_ret
        exact ⟨by rw [HV.out]; rfl, rfl⟩
  · have ih1 : ¬ (65 : Int) ≤ (c : Int) := by omega
    by_cases h3 : 48 ≤ c
    · have ih3 : (48 : Int) ≤ (c : Int) := by omega
      by_cases h4 : c ≤ 57
      · have ih4 : (c : Int) ≤ 57 := by omega
        have HV : Hid (upB c = true) := by show upB c = true; unfold upB; simp; omega
        clear h1 h3 h4
        go_enter Tryz.func17, Tryz.ntmps17
        go_wp2
        go_ret
        exact ⟨by rw [HV.out]; rfl, rfl⟩
      · have ih4 : ¬ (c : Int) ≤ 57 := by omega
        have HV : Hid (upB c = false) := by show upB c = false; unfold upB; simp; omega
        clear h1 h3 h4
        go_enter Tryz.func17, Tryz.ntmps17
        go_wp2
        go_ret
        exact ⟨by rw [HV.out]; rfl, rfl⟩
    · have ih3 : ¬ (48 : Int) ≤ (c : Int) := by omega
      have HV : Hid (upB c = false) := by show upB c = false; unfold upB; simp; omega
      clear h1 h3
      go_enter Tryz.func17, Tryz.ntmps17
      go_wp2
      go_ret
      exact ⟨by rw [HV.out]; rfl, rfl⟩
theorem lower_any (c : Nat) (hc : c < 256) (W : World) :
    Calls Tryz.prog 35 #[.int .u8 c] W fun e w' => e = .returned (.bool (loB c)) ∧ w' = W := by
  by_cases h1 : 97 ≤ c
  · have ih1 : (97 : Int) ≤ (c : Int) := by omega
    by_cases h2 : c ≤ 122
    · have ih2 : (c : Int) ≤ 122 := by omega
      have HV : Hid (loB c = true) := by show loB c = true; unfold loB; simp; omega
      clear h1 h2
      go_enter Tryz.func35, Tryz.ntmps35
      go_wp2
      go_ret
      exact ⟨by rw [HV.out]; rfl, rfl⟩
    · have ih2 : ¬ (c : Int) ≤ 122 := by omega
      by_cases h3 : 48 ≤ c
      · have ih3 : (48 : Int) ≤ (c : Int) := by omega
        by_cases h4 : c ≤ 57
        · have ih4 : (c : Int) ≤ 57 := by omega
          have HV : Hid (loB c = true) := by show loB c = true; unfold loB; simp; omega
          clear h1 h2 h3 h4
          go_enter Tryz.func35, Tryz.ntmps35
          go_wp2
          go_ret
          exact ⟨by rw [HV.out]; rfl, rfl⟩
        · have ih4 : ¬ (c : Int) ≤ 57 := by omega
          have HV : Hid (loB c = false) := by show loB c = false; unfold loB; simp; omega
          clear h1 h2 h3 h4
          go_enter Tryz.func35, Tryz.ntmps35
          go_wp2
          go_ret
          exact ⟨by rw [HV.out]; rfl, rfl⟩
      · have ih3 : ¬ (48 : Int) ≤ (c : Int) := by omega
        have HV : Hid (loB c = false) := by show loB c = false; unfold loB; simp; omega
        clear h1 h2 h3
        go_enter Tryz.func35, Tryz.ntmps35
        go_wp2
        go_ret
        exact ⟨by rw [HV.out]; rfl, rfl⟩
  · have ih1 : ¬ (97 : Int) ≤ (c : Int) := by omega
    by_cases h3 : 48 ≤ c
    · have ih3 : (48 : Int) ≤ (c : Int) := by omega
      by_cases h4 : c ≤ 57
      · have ih4 : (c : Int) ≤ 57 := by omega
        have HV : Hid (loB c = true) := by show loB c = true; unfold loB; simp; omega
        clear h1 h3 h4
        go_enter Tryz.func35, Tryz.ntmps35
        go_wp2
        go_ret
        exact ⟨by rw [HV.out]; rfl, rfl⟩
      · have ih4 : ¬ (c : Int) ≤ 57 := by omega
        have HV : Hid (loB c = false) := by show loB c = false; unfold loB; simp; omega
        clear h1 h3 h4
        go_enter Tryz.func35, Tryz.ntmps35
        go_wp2
        go_ret
        exact ⟨by rw [HV.out]; rfl, rfl⟩
    · have ih3 : ¬ (48 : Int) ≤ (c : Int) := by omega
      have HV : Hid (loB c = false) := by show loB c = false; unfold loB; simp; omega
      clear h1 h3
      go_enter Tryz.func35, Tryz.ntmps35
      go_wp2
      go_ret
      exact ⟨by rw [HV.out]; rfl, rfl⟩
/-- the two ends, as lists -/
theorem strHd (s : ByteArray) : (s.toList == [78, 111, 105, 115, 101, 95]) = decide (s = hdN) := by rw [← str_eq, show hdN.toList = [78, 111, 105, 115, 101, 95] by simp [hdN]]
theorem strTl (s : ByteArray) : (s.toList == [95, 50, 53, 53, 49, 57, 95, 67, 104, 97, 67, 104, 97, 80, 111, 108, 121, 95, 66, 76, 65, 75, 69, 50, 115]) = decide (s = tlN) := by rw [← str_eq, show tlN.toList = [95, 50, 53, 53, 49, 57, 95, 67, 104, 97, 67, 104, 97, 80, 111, 108, 121, 95, 66, 76, 65, 75, 69, 50, 115] by simp [tlN]]
def FuP (t : ByteArray) (e : Ending) : Prop := match nfl t with
  | none => e = .returned (.tuple #[.string ⟨#[]⟩, .bool false])
  | some f => e = .returned (.tuple #[.string f, .bool true])
set_option maxHeartbeats 8000000 in
theorem full_any (t : ByteArray) (W : World) (ht : t.size ≤ 140737488355328) :
    Calls Tryz.prog 16 #[.string t] W fun e w' => FuP t e ∧ w' = W := by
  have hN : nfl t = if 255 < t.size ∨ t.size < 31 then none else if t.extract 0 6 ≠ hdN ∨ t.extract (t.size - 25) t.size ≠ tlN then none else some (t.extract 6 (t.size - 25)) := rfl
  obtain ⟨n, hn⟩ : ∃ n, t.size = n := ⟨_, rfl⟩
  rw [hn] at hN ht
  by_cases h1 : 255 < n
  · have HN : Hid (nfl t = none) := by show nfl t = none; rw [hN, if_pos (.inl h1)]
    have t0 : (n : Int) > 255 := by omega
    have t1 : (255 : Int) < (n : Int) := by omega
    clear hN h1
    go_enter Tryz.func16, Tryz.ntmps16
    go_wp2
    go_ret2
    exact ⟨by unfold FuP; rw [HN.out]; rfl, rfl⟩
  have t0 : ¬ (n : Int) > 255 := by omega
  have t1 : ¬ (255 : Int) < (n : Int) := by omega
  by_cases h2 : n < 31
  · have HN : Hid (nfl t = none) := by show nfl t = none; rw [hN, if_pos (.inr h2)]
    have t2 : (n : Int) < 31 := by omega
    clear hN h1 h2
    go_enter Tryz.func16, Tryz.ntmps16
    go_wp2
    go_ret2
    exact ⟨by unfold FuP; rw [HN.out]; rfl, rfl⟩
  have t2 : ¬ (n : Int) < 31 := by omega
  rw [if_neg (by omega)] at hN
  obtain ⟨k, hk⟩ : ∃ k, n - 25 = k := ⟨_, rfl⟩
  rw [hk] at hN
  have s1 := strHd (t.extract 0 6)
  have s2 := strTl (t.extract k n)
  have bk : (6 : Int) ≤ k := by omega
  have bk2 : (k : Int) ≤ 300 := by omega
  have e1 : (n : Int) - 25 = k := by omega
  have bkn : (k : Int) ≤ n := by omega
  have HKN : Hid (n - 25 = k) := hk
  clear hk
  by_cases h3 : t.extract 0 6 = hdN
  case neg =>
    have HN : Hid (nfl t = none) := by show nfl t = none; rw [hN, if_pos (.inl h3)]
    rw [decide_eq_false h3] at s1
    clear hN h1 h2 h3 s2
    go_enter Tryz.func16, Tryz.ntmps16
    go_wp2
    go_ret2
    exact ⟨by unfold FuP; rw [HN.out]; rfl, rfl⟩
  rw [decide_eq_true h3] at s1
  by_cases h4 : t.extract k n = tlN
  · have HN : Hid (nfl t = some (t.extract 6 k)) := by show nfl t = some (t.extract 6 k); rw [hN, if_neg (fun h => h.elim (fun h => h h3) (fun h => h h4))]
    rw [decide_eq_true h4] at s2
    clear hN h1 h2 h3 h4
    go_enter Tryz.func16, Tryz.ntmps16
    go_wp2
    go_ret2
    exact ⟨by unfold FuP; rw [HN.out]; rfl, rfl⟩
  · have HN : Hid (nfl t = none) := by show nfl t = none; rw [hN, if_pos (.inr h4)]
    rw [decide_eq_false h4] at s2
    clear hN h1 h2 h3 h4
    go_enter Tryz.func16, Tryz.ntmps16
    go_wp2
    go_ret2
    exact ⟨by unfold FuP; rw [HN.out]; rfl, rfl⟩
end Go.Proofs.YtchnkpgkckadmaaGreatDoor
namespace Go.Proofs.YtchnkpgkckadmaaGreatDoor
set_option linter.unusedSimpArgs false
set_option linter.unusedVariables false
set_option maxRecDepth 100000
open Go.ChangeShapes Go.WideShapes Go.ChangeAt Go.RowKit Go.Pin Go.Pat
def WoP (s : ByteArray) (q : Nat) (W : World) (e : Ending) (w' : World) : Prop := Below q W w' ∧ match nwd s with
  | none => e = .returned (.tuple #[.slice none 0 0, .bool false])
  | some L => ∃ v, e = .returned (.tuple #[v, .bool true]) ∧ w'.ownsRow q 9 1 v L.length (L.map Value.string)
theorem ext_byt {s : ByteArray} {f k : Nat} (hf : f < k) (hk : k ≤ s.size) : (s.extract f k).size = k - f ∧ byt (s.extract f k) 0 = byt s f := by
  have h1 : (s.extract f k).size = k - f := by simp; omega
  refine ⟨h1, ?_⟩
  unfold byt
  have e : (s.extract f k).data.toList = ((toL s).take k).drop f := toL_ext s f k
  rw [e]
  simp only [List.getD, List.getElem?_drop, Nat.add_zero]
  rw [List.getElem?_take_of_lt hf]
theorem dg_split {c : Nat} : dgB c = true ↔ 48 ≤ c ∧ c ≤ 57 := by unfold dgB; simp
set_option maxHeartbeats 8000000 in
theorem words16_any (s : ByteArray) (W : World) (hs : s.size ≤ 140737488355) :
    Calls Tryz.prog 19 #[.string s] W (WoP s W.heap.size W) := by
  obtain ⟨q, hq⟩ : ∃ q, W.heap.size = q := ⟨_, rfl⟩
  rw [hq]
  obtain ⟨n, hn⟩ : ∃ n, s.size = n := ⟨_, rfl⟩
  by_cases h0 : n = 0
  · have hse : s = ⟨#[]⟩ := toL_inj (by have := toL_len s; rw [hn, h0] at this; exact List.eq_nil_of_length_eq_zero this)
    have HN : Hid (nwd s = some []) := by show nwd s = some []; unfold nwd; rw [if_pos (by omega)]
    have e0 : (s.toList == []) = true := by rw [hse]; simp
    have e1 : (s.toList == ([] : List UInt8)) = true := e0
    clear hs h0 hse
    go_enter Tryz.func19, Tryz.ntmps19
    go_wp2
    go_ret2
    unfold WoP
    rw [HN.out]
    exact ⟨Below.refl _ _, _, rfl, own_nil0 _ _ _ _⟩
  have e0 : (s.toList == []) = false := by
    have h1 : s.toList ≠ [] := fun e => h0 (by have h2 : (toL s).length = s.size := toL_len s; rw [Go.ByteArray.toList_eq] at e; unfold toL at h2; rw [e] at h2; simp at h2; omega)
    simpa using h1
  have HN0 : Hid (s.size = n ∧ n ≠ 0 ∧ n ≤ 140737488355) := ⟨hn, h0, by omega⟩
  have bn : (n : Int) ≤ 140737488355 := by omega
  clear h0 hs
  go_enter Tryz.func19, Tryz.ntmps19
  go_wp2
  clear e0
  go_loopw [4, 5, 6] (fun v4 v5 v6 wr => ∃ (i f : Nat) (L : List ByteArray), i ≤ n + 1 ∧ v6 = .int .i64 i ∧ v5 = .int .i64 f ∧ f ≤ i ∧ L.length ≤ i ∧ wst s i = some (f, L) ∧ wr.ownsRow q 9 1 v4 L.length (L.map Value.string) ∧ Below q W wr) (fun _ _ v _ => n + 2 - (intOf v).toNat)
  case atStart => exact ⟨0, 0, [], Nat.zero_le _, rfl, rfl, Nat.le_refl _, Nat.le_refl _, rfl, own_nil0 _ _ _ _, Below.refl _ _⟩
  case round =>
    obtain ⟨i, f, L, hi, rfl, rfl, hf, hLl, hw, ho, hb⟩ := hrel
    obtain ⟨a4, c4, rfl⟩ := own_slice' ho
    have hstep := wst_step hw
    have HW : Hid (wst s i = some (f, L)) := hw
    obtain ⟨m, hm⟩ : ∃ m, L.length = m := ⟨_, rfl⟩
    rw [hm] at ho hLl ⊢
    have HM : Hid (L.length = m) := hm
    have HO : Hid (wr.ownsRow q 9 1 (.slice a4 m c4) m (L.map Value.string)) := ho
    have HB : Hid (Below q W wr) := hb
    have hqs : q ≤ wr.heap.size := by have := hb.size; omega
    clear ho hb hw hm
    by_cases hlt : i ≤ n
    · have b1 : (i : Int) ≤ (n : Int) := by omega
      have HNO : Hid (wst s (i + 1) = none → nwd s = none) := fun h => nwd_none (by have := HN0.out; omega) h (by have := HN0.out; omega)
      have bi0 : (0 : Int) ≤ (i : Int) := by omega
      by_cases hlo : i < n ∧ loB (byt s i) = true
      · have hil : i < s.size := by have := HN0.out; omega
        have CL := lower_any (byt s i) (by rw [byt_get s i hil]; exact UInt8.toNat_lt _)
        rw [hlo.2, byt_get s i hil] at CL
        rw [if_pos ⟨hil, hlo.2⟩] at hstep
        have b2 : (i : Int) < (n : Int) := by omega
        have HST : Hid _ := hstep
        have HI : Hid (i < n ∧ f ≤ i ∧ m ≤ i) := ⟨hlo.1, hf, hLl⟩
        clear hlo hstep hlt hi hf hLl
        go_wp2_with (go_at_call 35; refine (CL _).mono ?_; rintro e wa ⟨rfl, hwa⟩; obtain rfl : wr = wa := hwa.symm)
        refine ⟨⟨i + 1, f, L, by have := HI.out; omega, congrArg (Value.int .i64) (Int.natCast_succ i).symm, rfl, by have := HI.out; omega, by have := HI.out; have := HM.out; omega, HST.out, by rw [HM.out]; exact HO.out, HB.out⟩, by have := HI.out; show n + 2 - ((i : Int) + 1).toNat < n + 2 - ((i : Int)).toNat; omega⟩
      rw [if_neg (by have := HN0.out.1; rw [this]; exact hlo)] at hstep
      by_cases hin : i < n
      · have hil : i < s.size := by have := HN0.out; omega
        have CL := lower_any (byt s i) (by rw [byt_get s i hil]; exact UInt8.toNat_lt _)
        have hlf : loB (byt s i) = false := by
          cases h : loB (byt s i) with
          | true => exact absurd ⟨hin, h⟩ hlo
          | false => rfl
        rw [hlf, byt_get s i hil] at CL
        have b2 : (i : Int) < (n : Int) := by omega
        by_cases h43 : byt s i = 43
        · have e43 : ((s[i].toNat : Int) == 43) = true := by rw [← byt_get s i hil, h43]; rfl
          have e44 : ((s[i].toNat : Int) != 43) = false := by rw [← byt_get s i hil, h43]; rfl
          rw [if_neg (fun h => h.2 h43)] at hstep
          clear hlo hlf h43 hin
          by_cases hfi : f = i
          · have HNN : Hid (nwd s = none) := HNO.out (by rw [hstep, if_pos (.inl (by rw [hfi]; simp))])
            have hx0 : s.extract f i = ⟨#[]⟩ := by rw [hfi]; exact toL_inj (by rw [toL_ext]; simp [toL])
            have a1 : (f : Int) ≤ (i : Int) := by omega
            have a2 : (i : Int) ≤ (s.size : Int) := by omega
            have a3 : (i : Int) ≤ n := by omega
            have HFI : Hid (f = i) := hfi
            clear hfi hstep hlt hi hf hLl
            go_wp2_with (go_at_call 35; refine (CL _).mono ?_; rintro e wa ⟨rfl, hwa⟩; obtain rfl : wr = wa := hwa.symm)
            go_ret2
            unfold WoP
            rw [HNN.out]
            exact ⟨HB.out, rfl⟩
          obtain ⟨hxs, hxb⟩ := ext_byt (s := s) (f := f) (k := i) (by omega) (by have := HN0.out; omega)
          obtain ⟨x, hx⟩ : ∃ x, s.extract f i = x := ⟨_, rfl⟩
          rw [hx] at hxs hxb hstep
          have hx0 : 0 < x.size := by omega
          have hgx := byt_get x 0 hx0
          have hne : (x.toList == []) = false := by
            have h1 : x.toList ≠ [] := fun e => by have h2 : (toL x).length = x.size := toL_len x; rw [Go.ByteArray.toList_eq] at e; unfold toL at h2; rw [e] at h2; simp at h2; omega
            simpa using h1
          have a1 : (f : Int) ≤ (i : Int) := by omega
          have a2 : (i : Int) ≤ (s.size : Int) := by have := HN0.out; omega
          have a3 : (i : Int) ≤ n := by omega
          have a4 : (0 : Int) < (x.size : Int) := by omega
          by_cases hdg : dgB (byt x 0) = true
          · have HNN : Hid (nwd s = none) := HNO.out (by rw [hstep, if_pos (.inr hdg)])
            obtain ⟨g1, g2⟩ := dg_split.1 hdg
            rw [hgx] at g1 g2
            have q1 : (x[0].toNat : Int) ≥ 48 := by omega
            have q2 : (x[0].toNat : Int) ≤ 57 := by omega
            have q3 : (48 : Int) ≤ (x[0].toNat : Int) := by omega
            have HFI : Hid (x.size = i - f) := hxs
            clear hdg hstep hlt hi hf hLl hxs hxb hgx g1 g2
            go_wp2_with (go_at_call 35; refine (CL _).mono ?_; rintro e wa ⟨rfl, hwa⟩; obtain rfl : wr = wa := hwa.symm)
            go_ret2
            unfold WoP
            rw [HNN.out]
            exact ⟨HB.out, rfl⟩
          have HST : Hid (wst s (i + 1) = some (i + 1, L ++ [x])) := by show _ = _; rw [hstep, if_neg (fun h => h.elim (fun h => by omega) (fun h => hdg h))]
          have hst := HO.out.alloc (.cells #[.string x] 9)
          have hrow : (wr.alloc (.cells #[.string x] 9)).heap[wr.heap.size]? = some (.cells [Value.string x].toArray 9 (0, 0)) := heap_alloc_new _ _
          have HAP : Hid _ := own_app Tryz.underlying41 parts_str rfl (by decide) hst hrow rfl (fun u hu => by simp at hu; subst hu; rfl) (by have := HN0.out; omega) (by have := HN0.out; omega) (by rw [size_alloc]; omega)
          have HB2 : Hid (Below q W (wr.alloc (.cells #[.string x] 9))) := HB.out.alloc hqs _
          have HSO : Hid _ := hst
          have HI : Hid (i ≤ n ∧ m ≤ i ∧ q ≤ wr.heap.size) := ⟨hlt, hLl, hqs⟩
          have hdn : ¬ (48 ≤ x[0].toNat ∧ x[0].toNat ≤ 57) := fun h => hdg (dg_split.2 (by rw [hgx]; exact h))
          clear hdg hstep hlt hi hf hLl hxs hxb hgx hst hrow hqs
          by_cases h48 : 48 ≤ x[0].toNat
          · have q1 : (x[0].toNat : Int) ≥ 48 := by omega
            have q3 : (48 : Int) ≤ (x[0].toNat : Int) := by omega
            have q2 : ¬ (x[0].toNat : Int) ≤ 57 := by omega
            clear hdn h48
            go_wp2_with (first | (go_at_call 35; refine (CL _).mono ?_; rintro e wa ⟨rfl, hwa⟩; obtain rfl : wr = wa := hwa.symm) | (at_builtin; go_loud (refine wpList_app _ rfl (.tmp 52) (.tmp 54) 41 41 rfl _ _ rfl rfl HAP.out ?_; rintro v' w' ⟨h1, h2, h3⟩; have H7 : Hid (w'.ownsRow q 9 1 v' (m + 1) (L.map Value.string ++ [.string x])) := h1; have H8 : Hid (Below q W w') := grown_below HB2.out HSO.out (Nat.le_refl _) (by rw [size_alloc]; have := HI.out; omega) h2; clear h1 h2 h3)))
            refine ⟨⟨i + 1, i + 1, L ++ [x], by have := HI.out; omega, congrArg (Value.int .i64) (Int.natCast_succ i).symm, congrArg (Value.int .i64) (Int.natCast_succ i).symm, Nat.le_refl _, by have := HI.out; have := HM.out; rw [List.length_append]; simp; omega, HST.out, ?_, H8.out⟩, by have := HI.out; show n + 2 - ((i : Int) + 1).toNat < n + 2 - ((i : Int)).toNat; omega⟩
            simp only [List.length_append, List.length_singleton, HM.out, List.map_append, List.map_cons, List.map_nil]
            exact H7.out
          · have q1 : ¬ (x[0].toNat : Int) ≥ 48 := by omega
            have q3 : ¬ (48 : Int) ≤ (x[0].toNat : Int) := by omega
            clear hdn h48
            go_wp2_with (first | (go_at_call 35; refine (CL _).mono ?_; rintro e wa ⟨rfl, hwa⟩; obtain rfl : wr = wa := hwa.symm) | (at_builtin; go_loud (refine wpList_app _ rfl (.tmp 52) (.tmp 54) 41 41 rfl _ _ rfl rfl HAP.out ?_; rintro v' w' ⟨h1, h2, h3⟩; have H7 : Hid (w'.ownsRow q 9 1 v' (m + 1) (L.map Value.string ++ [.string x])) := h1; have H8 : Hid (Below q W w') := grown_below HB2.out HSO.out (Nat.le_refl _) (by rw [size_alloc]; have := HI.out; omega) h2; clear h1 h2 h3)))
            refine ⟨⟨i + 1, i + 1, L ++ [x], by have := HI.out; omega, congrArg (Value.int .i64) (Int.natCast_succ i).symm, congrArg (Value.int .i64) (Int.natCast_succ i).symm, Nat.le_refl _, by have := HI.out; have := HM.out; rw [List.length_append]; simp; omega, HST.out, ?_, H8.out⟩, by have := HI.out; show n + 2 - ((i : Int) + 1).toNat < n + 2 - ((i : Int)).toNat; omega⟩
            simp only [List.length_append, List.length_singleton, HM.out, List.map_append, List.map_cons, List.map_nil]
            exact H7.out
        · have HNN : Hid (nwd s = none) := HNO.out (by rw [hstep, if_pos ⟨hil, h43⟩])
          have h43' : ¬ (s[i].toNat : Int) = 43 := by rw [← byt_get s i hil]; omega
          have e43 : ((s[i].toNat : Int) == 43) = false := by simpa using h43'
          have e44 : ((s[i].toNat : Int) != 43) = true := by simpa using h43'
          clear hlo hlf h43 hin hstep hlt hi hf hLl
          go_wp2_with (go_at_call 35; refine (CL _).mono ?_; rintro e wa ⟨rfl, hwa⟩; obtain rfl : wr = wa := hwa.symm)
          go_ret2
          unfold WoP
          rw [HNN.out]
          exact ⟨HB.out, rfl⟩
      · have b2 : ¬ (i : Int) < (n : Int) := by omega
        rw [if_neg (fun h => hin (by have := HN0.out; omega))] at hstep
        clear hlo hin
        by_cases hfi : f = i
        · have HNN : Hid (nwd s = none) := HNO.out (by rw [hstep, if_pos (.inl (by rw [hfi]; simp))])
          have hx0 : s.extract f i = ⟨#[]⟩ := by rw [hfi]; exact toL_inj (by rw [toL_ext]; simp [toL])
          have a1 : (f : Int) ≤ (i : Int) := by omega
          have a2 : (i : Int) ≤ (s.size : Int) := by omega
          have a3 : (i : Int) ≤ n := by omega
          have HFI : Hid (f = i) := hfi
          clear hfi hstep hlt hi hf hLl
          go_wp2
          go_ret2
          unfold WoP
          rw [HNN.out]
          exact ⟨HB.out, rfl⟩
        obtain ⟨hxs, hxb⟩ := ext_byt (s := s) (f := f) (k := i) (by omega) (by have := HN0.out; omega)
        obtain ⟨x, hx⟩ : ∃ x, s.extract f i = x := ⟨_, rfl⟩
        rw [hx] at hxs hxb hstep
        have hx0 : 0 < x.size := by omega
        have hgx := byt_get x 0 hx0
        have hne : (x.toList == []) = false := by
          have h1 : x.toList ≠ [] := fun e => by have h2 : (toL x).length = x.size := toL_len x; rw [Go.ByteArray.toList_eq] at e; unfold toL at h2; rw [e] at h2; simp at h2; omega
          simpa using h1
        have a1 : (f : Int) ≤ (i : Int) := by omega
        have a2 : (i : Int) ≤ (s.size : Int) := by have := HN0.out; omega
        have a3 : (i : Int) ≤ n := by omega
        have a4 : (0 : Int) < (x.size : Int) := by omega
        by_cases hdg : dgB (byt x 0) = true
        · have HNN : Hid (nwd s = none) := HNO.out (by rw [hstep, if_pos (.inr hdg)])
          obtain ⟨g1, g2⟩ := dg_split.1 hdg
          rw [hgx] at g1 g2
          have q1 : (x[0].toNat : Int) ≥ 48 := by omega
          have q2 : (x[0].toNat : Int) ≤ 57 := by omega
          have q3 : (48 : Int) ≤ (x[0].toNat : Int) := by omega
          have HFI : Hid (x.size = i - f) := hxs
          clear hdg hstep hlt hi hf hLl hxs hxb hgx g1 g2
          go_wp2
          go_ret2
          unfold WoP
          rw [HNN.out]
          exact ⟨HB.out, rfl⟩
        have HST : Hid (wst s (i + 1) = some (i + 1, L ++ [x])) := by show _ = _; rw [hstep, if_neg (fun h => h.elim (fun h => by omega) (fun h => hdg h))]
        have hst := HO.out.alloc (.cells #[.string x] 9)
        have hrow : (wr.alloc (.cells #[.string x] 9)).heap[wr.heap.size]? = some (.cells [Value.string x].toArray 9 (0, 0)) := heap_alloc_new _ _
        have HAP : Hid _ := own_app Tryz.underlying41 parts_str rfl (by decide) hst hrow rfl (fun u hu => by simp at hu; subst hu; rfl) (by have := HN0.out; omega) (by have := HN0.out; omega) (by rw [size_alloc]; omega)
        have HB2 : Hid (Below q W (wr.alloc (.cells #[.string x] 9))) := HB.out.alloc hqs _
        have HSO : Hid _ := hst
        have HI : Hid (i ≤ n ∧ m ≤ i ∧ q ≤ wr.heap.size) := ⟨hlt, hLl, hqs⟩
        have hdn : ¬ (48 ≤ x[0].toNat ∧ x[0].toNat ≤ 57) := fun h => hdg (dg_split.2 (by rw [hgx]; exact h))
        clear hdg hstep hlt hi hf hLl hxs hxb hgx hst hrow hqs
        by_cases h48 : 48 ≤ x[0].toNat
        · have q1 : (x[0].toNat : Int) ≥ 48 := by omega
          have q3 : (48 : Int) ≤ (x[0].toNat : Int) := by omega
          have q2 : ¬ (x[0].toNat : Int) ≤ 57 := by omega
          clear hdn h48
          go_wp2_with (at_builtin; go_loud (refine wpList_app _ rfl (.tmp 52) (.tmp 54) 41 41 rfl _ _ rfl rfl HAP.out ?_; rintro v' w' ⟨h1, h2, h3⟩; have H7 : Hid (w'.ownsRow q 9 1 v' (m + 1) (L.map Value.string ++ [.string x])) := h1; have H8 : Hid (Below q W w') := grown_below HB2.out HSO.out (Nat.le_refl _) (by rw [size_alloc]; have := HI.out; omega) h2; clear h1 h2 h3))
          refine ⟨⟨i + 1, i + 1, L ++ [x], by have := HI.out; omega, congrArg (Value.int .i64) (Int.natCast_succ i).symm, congrArg (Value.int .i64) (Int.natCast_succ i).symm, Nat.le_refl _, by have := HI.out; have := HM.out; rw [List.length_append]; simp; omega, HST.out, ?_, H8.out⟩, by have := HI.out; show n + 2 - ((i : Int) + 1).toNat < n + 2 - ((i : Int)).toNat; omega⟩
          simp only [List.length_append, List.length_singleton, HM.out, List.map_append, List.map_cons, List.map_nil]
          exact H7.out
        · have q1 : ¬ (x[0].toNat : Int) ≥ 48 := by omega
          have q3 : ¬ (48 : Int) ≤ (x[0].toNat : Int) := by omega
          clear hdn h48
          go_wp2_with (at_builtin; go_loud (refine wpList_app _ rfl (.tmp 52) (.tmp 54) 41 41 rfl _ _ rfl rfl HAP.out ?_; rintro v' w' ⟨h1, h2, h3⟩; have H7 : Hid (w'.ownsRow q 9 1 v' (m + 1) (L.map Value.string ++ [.string x])) := h1; have H8 : Hid (Below q W w') := grown_below HB2.out HSO.out (Nat.le_refl _) (by rw [size_alloc]; have := HI.out; omega) h2; clear h1 h2 h3))
          refine ⟨⟨i + 1, i + 1, L ++ [x], by have := HI.out; omega, congrArg (Value.int .i64) (Int.natCast_succ i).symm, congrArg (Value.int .i64) (Int.natCast_succ i).symm, Nat.le_refl _, by have := HI.out; have := HM.out; rw [List.length_append]; simp; omega, HST.out, ?_, H8.out⟩, by have := HI.out; show n + 2 - ((i : Int) + 1).toNat < n + 2 - ((i : Int)).toNat; omega⟩
          simp only [List.length_append, List.length_singleton, HM.out, List.map_append, List.map_cons, List.map_nil]
          exact H7.out
    · have b1 : ¬ (i : Int) ≤ (n : Int) := by omega
      have HI : Hid (nwd s = some L) := by
        show nwd s = some L
        obtain rfl : i = n + 1 := by omega
        unfold nwd
        rw [if_neg (by have := HN0.out; omega), HN0.out.1, HW.out]
        rfl
      clear hstep
      go_wp2
      go_ret2
      unfold WoP
      rw [HI.out]
      exact ⟨HB.out, _, rfl, by rw [HM.out]; exact HO.out⟩
end Go.Proofs.YtchnkpgkckadmaaGreatDoor
