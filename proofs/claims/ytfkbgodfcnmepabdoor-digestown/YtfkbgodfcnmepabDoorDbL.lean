import Derived.Test.YtfkbgodfcnmepabDoorDbA
namespace Go.Proofs.YtfkbgodfcnmepabDoor
set_option linter.unusedSimpArgs false
set_option linter.unusedVariables false
open Go.ChangeShapes Go.WideShapes Go.ChangeAt Go.RowKit Go.Pin Go.Str Go.Dig
/-- more than a statement plays -/
def lng (Ds : List (List Int)) : Bool := decide (400 < Ds.length ∨ 131072 < Ds.flatten.length)
theorem sum_snoc (Ds : List (List Int)) (i : Nat) (h : i < Ds.length) : (Ds.take (i + 1)).flatten.length = (Ds.take i).flatten.length + (Ds.getD i []).length := by
  rw [take_snocL Ds i h, List.flatten_append, List.length_append]
  simp
theorem sum_le (Ds : List (List Int)) (i : Nat) : (Ds.take i).flatten.length ≤ Ds.flatten.length := by have := take_sum Ds i; omega
theorem wrapAL {a b : Nat} (h : a ≤ 131072) (hb : b ≤ 140737488355328) : wrap64 ((a : Int) + (b : Int)) = ((a + b : Nat) : Int) ∧ IntKind.i64.wrap ((a : Int) + (b : Int)) = ((a + b : Nat) : Int) := by
  rw [IntWalk.wrap64_in _ ⟨by omega, by omega⟩, IntWalk.i64_in _ ⟨by omega, by omega⟩]
  omega
set_option maxRecDepth 100000 in
set_option maxHeartbeats 4000000 in
theorem long_any {B : Nat} {w : World} {rv : Value} {l : List (Int × Int)} {bx : List (Nat × Obj)} {W : World} (h : Ev B w rv l bx W) {a : Option Addr} {n cap : Nat} {Ds : List (List Int)} (hP : PSrc B w bx a n Ds) (hm : ∀ D ∈ Ds, D.length ≤ 140737488355328) :
    Calls Tryd.prog 11 #[.slice a n cap] W fun e w' => e = .returned (.bool (lng Ds)) ∧ w' = W := by
  have HP : Hid (PSrc B w bx a n Ds ∧ Ev B w rv l bx W ∧ ∀ D ∈ Ds, D.length ≤ 140737488355328) := ⟨hP, h, hm⟩
  have HN : Hid (Ds.length = n) := hP.1.1
  clear h hP hm
  by_cases hn : n ≤ 400
  · have b0 : ¬ (400 : Int) < (n : Int) := by omega
    have b0' : ¬ 400 < n := by omega
    have HN4 : Hid (n ≤ 400) := hn
    clear hn
    go_enter Tryd.func11, Tryd.ntmps11
    go_wp2
    go_loop [3, 4] (fun s i => ∃ k : Nat, k ≤ n ∧ i = .int .i64 (k : Int) ∧ s = .int .i64 (((Ds.take k).flatten.length : Nat) : Int) ∧ (Ds.take k).flatten.length ≤ 131072) (fun _ i => n - (intOf i).toNat)
    case atStart => exact ⟨0, Nat.zero_le _, rfl, rfl, by simp⟩
    case round =>
      obtain ⟨k, hk, rfl, rfl, hs⟩ := hrel
      by_cases hlt : k < n
      · have b1 : (k : Int) < (n : Int) := by omega
        obtain ⟨b, o, u, rfl, hcu, hsu⟩ := HP.out.1.2 k hlt
        have c1 := hcu W HP.out.2.1.old (fun q hq => HP.out.2.1.at' q hq)
        obtain ⟨a', cap', rfl, _, _⟩ := id hsu
        have hsn := sum_snoc Ds k (by rw [HN.out]; exact hlt)
        have hml : (Ds.getD k []).length ≤ 140737488355328 := by
          rw [List.getD_eq_getElem?_getD, List.getElem?_eq_getElem (by rw [HN.out]; exact hlt)]
          exact HP.out.2.2 _ (List.getElem_mem _)
        obtain ⟨hw, hw'⟩ := wrapAL hs hml
        rw [← hsn] at hw hw'
        obtain ⟨m, hmm⟩ : ∃ m, (Ds.getD k []).length = m := ⟨_, rfl⟩
        rw [hmm] at hw hw' c1
        obtain ⟨s0, hs0⟩ : ∃ s0, (Ds.take k).flatten.length = s0 := ⟨_, rfl⟩
        obtain ⟨s1, hs1⟩ : ∃ s1, (Ds.take (k + 1)).flatten.length = s1 := ⟨_, rfl⟩
        rw [hs0, hs1] at hw hw'
        rw [hs0]
        have HX : Hid (k < n ∧ n ≤ 400 ∧ (Ds.take (k + 1)).flatten.length = s1) := ⟨hlt, HN4.out, hs1⟩
        have HW1 : Hid (wrap64 ((k : Int) + 1) = (k : Int) + 1) := wrapS hlt (by have := HN4.out; unfold maxLen; omega)
        clear hcu hsu hsn hml hmm hs0 hs1 hs hk
        by_cases hgt : 131072 < s1
        · have b2 : (131072 : Int) < (s1 : Int) := by omega
          have HR : Hid (lng Ds = true) := by
            have : lng Ds = true := by
              unfold lng
              have := sum_le Ds (k + 1)
              rw [HX.out.2.2] at this
              exact decide_eq_true (.inr (by omega))
            exact this
          go_wp2
          go_ret
          exact ⟨by rw [HR.out]; rfl, rfl⟩
        · have b2 : ¬ (131072 : Int) < (s1 : Int) := by omega
          have HS1 : Hid (s1 ≤ 131072) := by show s1 ≤ 131072; omega
          go_wp2
          go_round
          case rel => exact ⟨k + 1, HX.out.1, by first | go_num | (rw [HW1.out]; exact congrArg (Value.int .i64) (by omega)), by rw [HX.out.2.2], by rw [HX.out.2.2]; exact HS1.out⟩
          case measure => first | exact measS HX.out.1 (by have := HX.out.2.1; unfold maxLen; omega) | (have := HX.out.1; simp only [intOf]; omega)
      · have b1 : ¬ (k : Int) < (n : Int) := by omega
        have HR : Hid (lng Ds = false) := by
          have : lng Ds = false := by
            unfold lng
            have e : Ds.take k = Ds := List.take_of_length_le (by rw [HN.out]; omega)
            rw [e] at hs
            have := HN.out
            have := HN4.out
            exact decide_eq_false (by omega)
          exact this
        clear hs hk
        go_wp2
        go_ret
        exact ⟨by rw [HR.out]; rfl, rfl⟩
  · have b0 : (400 : Int) < (n : Int) := by omega
    have b0' : 400 < n := by omega
    have HR : Hid (lng Ds = true) := by
      have : lng Ds = true := by
        unfold lng
        rw [HN.out]
        simp
        left
        exact b0'
      exact this
    go_enter Tryd.func11, Tryd.ntmps11
    go_wp2
    go_ret
    exact ⟨by rw [HR.out]; rfl, rfl⟩
theorem lng_false {Ds : List (List Int)} (h : lng Ds = false) : Ds.length ≤ 400 ∧ Ds.flatten.length ≤ 131072 := by
  unfold lng at h
  simp only [decide_eq_false_iff_not, not_or] at h
  omega
end Go.Proofs.YtfkbgodfcnmepabDoor
