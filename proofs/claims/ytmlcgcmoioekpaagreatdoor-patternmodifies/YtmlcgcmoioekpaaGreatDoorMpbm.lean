import Derived.Test.YtmlcgcmoioekpaaGreatDoorMpbl
import Derived.Test.YtmlcgcmoioekpaaGreatDoorMpaj
namespace Go.Proofs.YtmlcgcmoioekpaaGreatDoor
set_option linter.unusedSimpArgs false
set_option linter.unusedVariables false
open Go.ChangeShapes Go.WideShapes Go.ChangeAt Go.RowKit Go.Pin Go.Pat
theorem strP (s : ByteArray) : (s.toList == [112, 115, 107]) = decide (s = pskW) := by rw [← str_eq, show pskW.toList = [112, 115, 107] by simp [pskW]]
set_option maxRecDepth 100000 in
set_option maxHeartbeats 4000000 in
theorem number_any (s : ByteArray) (W : World) (hs : s.size ≤ 140737488355328) :
    Calls Tryz.prog 64 #[.string s] W fun e w' => e = .returned (.int .i64 (nmb s)) ∧ w' = W := by
  have hN : nmb s = if s.size < 4 ∨ 6 < s.size then -1 else if s.extract 0 3 ≠ pskW then -1 else if byt s 3 = 48 ∧ 4 < s.size then -1 else match dgN s (s.size - 3) with | none => -1 | some n => (n : Int) := rfl
  have sP := strP (s.extract 0 3)
  obtain ⟨n, hn⟩ : ∃ n, s.size = n := ⟨_, rfl⟩
  rw [hn] at hN hs
  by_cases h4 : n < 4
  · have HN : Hid (nmb s = -1) := by show nmb s = -1; rw [hN, if_pos (.inl h4)]
    have t0 : (n : Int) < 4 := by omega
    have t1 : decide ((n : Int) < 4) = true := decide_eq_true t0
    clear hN sP h4
    go_enter Tryz.func64, Tryz.ntmps64
    go_wp2
    go_ret
    exact ⟨by rw [HN.out]; rfl, rfl⟩
  have t0 : ¬ (n : Int) < 4 := by omega
  have t1 : decide ((n : Int) < 4) = false := decide_eq_false t0
  by_cases h6 : 6 < n
  · have HN : Hid (nmb s = -1) := by show nmb s = -1; rw [hN, if_pos (.inr h6)]
    have t2 : (6 : Int) < (n : Int) := by omega
    have t3 : decide ((6 : Int) < (n : Int)) = true := decide_eq_true t2
    clear hN sP h4 h6
    go_enter Tryz.func64, Tryz.ntmps64
    go_wp2
    go_ret
    exact ⟨by rw [HN.out]; rfl, rfl⟩
  have t2 : ¬ (6 : Int) < (n : Int) := by omega
  have t3 : decide ((6 : Int) < (n : Int)) = false := decide_eq_false t2
  rw [if_neg (by omega)] at hN
  by_cases hp : s.extract 0 3 = pskW
  case neg =>
    have HN : Hid (nmb s = -1) := by show nmb s = -1; rw [hN, if_pos hp]
    rw [decide_eq_false hp] at sP
    clear hN h4 h6 hp
    go_enter Tryz.func64, Tryz.ntmps64
    go_wp2
    go_ret
    exact ⟨by rw [HN.out]; rfl, rfl⟩
  rw [decide_eq_true hp] at sP
  rw [if_neg (fun h => h hp)] at hN
  have h3l : 3 < s.size := by omega
  have hb3 := byt_get s 3 h3l
  by_cases hz : byt s 3 = 48 ∧ 4 < n
  · have HN : Hid (nmb s = -1) := by show nmb s = -1; rw [hN, if_pos hz]
    have t4 : ((s[3].toNat : Int) == 48) = true := by rw [← hb3, hz.1]; rfl
    have t5 : (4 : Int) < (n : Int) := by omega
    have t6 : decide ((4 : Int) < (n : Int)) = true := decide_eq_true t5
    clear hN h4 h6 hp hz hb3
    go_enter Tryz.func64, Tryz.ntmps64
    go_wp2
    go_ret
    exact ⟨by rw [HN.out]; rfl, rfl⟩
  rw [if_neg hz] at hN
  have HN : Hid _ := hN
  have HNN : Hid (s.size = n ∧ ¬ n < 4 ∧ ¬ 6 < n) := ⟨hn, h4, h6⟩
  have hT : ∃ b c, ((s[3].toNat : Int) == 48) = b ∧ decide ((4 : Int) < (n : Int)) = c ∧ (b && c) = false := by
    refine ⟨_, _, rfl, rfl, ?_⟩
    by_cases hx : byt s 3 = 48
    · have : ¬ (4 : Int) < (n : Int) := by omega
      rw [decide_eq_false this, Bool.and_false]
    · have : ((s[3].toNat : Int) == 48) = false := by rw [← hb3]; simp; omega
      rw [this, Bool.false_and]
  obtain ⟨b, c, t4, t5, t6⟩ := hT
  clear hN h4 h6 hp hz hb3
  rcases b with _ | _ <;> rcases c with _ | _
  case true.true => cases t6
  all_goals
    clear t6
    go_enter Tryz.func64, Tryz.ntmps64
    go_wp2
    clear t4 t5 sP
    go_loopw [3, 4] (fun v3 v4 wr => ∃ (i m : Nat), 3 + i ≤ n ∧ v4 = .int .i64 ((3 + i : Nat) : Int) ∧ v3 = .int .i64 (m : Int) ∧ dgN s i = some m ∧ wr = W) (fun _ v _ => n - (intOf v).toNat)
    case atStart => exact ⟨0, 0, by omega, rfl, rfl, rfl, rfl⟩
    case round =>
      obtain ⟨i, m, hi, rfl, rfl, hd, rfl⟩ := hrel
      have hml := dgN_le s i m hd
      have hi3 : i ≤ 3 := by omega
      have hm1000 : m < 1000 := Nat.lt_of_lt_of_le hml (by have : 10 ^ i ≤ 10 ^ 3 := Nat.pow_le_pow_right (by decide) hi3; simpa using this)
      obtain ⟨k, hk⟩ : ∃ k, 3 + i = k := ⟨_, rfl⟩
      rw [hk] at hi ⊢
      by_cases hlt : k < n
      · have b1 : (k : Int) < (n : Int) := by omega
        have hkl : k < s.size := by omega
        have hbk := byt_get s k hkl
        have hu : dgN s (i + 1) = if byt s (3 + i) < 48 ∨ 57 < byt s (3 + i) then none else some (10 * m + byt s (3 + i) - 48) := by
          show (match dgN s i with | none => none | some n => _) = _
          rw [hd]
        rw [hk, hbk] at hu
        have hx256 : s[k].toNat < 256 := s[k].toNat_lt
        obtain ⟨x, hx⟩ : ∃ x, s[k].toNat = x := ⟨_, rfl⟩
        rw [hx] at hu hx256
        clear hd hbk hml
        by_cases h48 : x < 48
        · have HF : Hid (nmb s = -1) := by
            have h0 : dgN s (i + 1) = none := by rw [hu, if_pos (.inl h48)]
            have h1 := dgN_mono s (n - 3 - (i + 1)) (i + 1) h0
            rw [show i + 1 + (n - 3 - (i + 1)) = n - 3 by omega] at h1
            show nmb s = -1
            rw [HN.out, h1]
          have g1 : (x : Int) < 48 := by omega
          have g2 : decide ((x : Int) < 48) = true := decide_eq_true g1
          clear hu
          go_wp2
          go_ret
          exact ⟨by rw [HF.out]; rfl, rfl⟩
        · have g1 : ¬ (x : Int) < 48 := by omega
          have g2 : decide ((x : Int) < 48) = false := decide_eq_false g1
          by_cases h57 : 57 < x
          · have HF : Hid (nmb s = -1) := by
              have h0 : dgN s (i + 1) = none := by rw [hu, if_pos (.inr h57)]
              have h1 := dgN_mono s (n - 3 - (i + 1)) (i + 1) h0
              rw [show i + 1 + (n - 3 - (i + 1)) = n - 3 by omega] at h1
              show nmb s = -1
              rw [HN.out, h1]
            have g3 : (57 : Int) < (x : Int) := by omega
            have g4 : decide ((57 : Int) < (x : Int)) = true := decide_eq_true g3
            clear hu
            go_wp2
            go_ret
            exact ⟨by rw [HF.out]; rfl, rfl⟩
          · have g3 : ¬ (57 : Int) < (x : Int) := by omega
            have g4 : decide ((57 : Int) < (x : Int)) = false := decide_eq_false g3
            rw [if_neg (by omega)] at hu
            have HU : Hid _ := hu
            have HK : Hid (3 + i = k) := hk
            clear hu hk
            go_wp2
            refine ⟨⟨i + 1, 10 * m + x - 48, by have := HK.out; omega, ?_, ?_, HU.out, trivial⟩, ?_⟩
            · have := HK.out; exact congrArg (Value.int .i64) (by omega)
            · exact congrArg (Value.int .i64) (by omega)
            · show n - ((k : Int) + 1).toNat < n - ((k : Int)).toNat; omega
      · have b1 : ¬ (k : Int) < (n : Int) := by omega
        have HF : Hid (nmb s = (m : Int)) := by
          show nmb s = (m : Int)
          rw [HN.out, show n - 3 = i by omega, hd]
        clear hd
        go_wp2
        go_ret
        exact ⟨by rw [HF.out]; rfl, rfl⟩
end Go.Proofs.YtmlcgcmoioekpaaGreatDoor
