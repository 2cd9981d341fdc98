import Derived.Test.YtgfamcadgahiiabMacO
namespace Go.Proofs.Ytgfamcadgahiiab
set_option linter.unusedSimpArgs false
set_option linter.unusedVariables false
open Go.ChangeShapes Go.WideShapes Go.ChangeAt Go.RowKit Go.Pin Go.Prm
set_option maxRecDepth 100000 in
set_option maxHeartbeats 4000000 in
/-- it answers, whatever the lengths are -/
theorem long_some {B : Nat} {w : World} {rv : Value} {l : List (Int × Int)} {bx : List (Nat × Obj)} {W : World} (h : Ev B w rv l bx W) {a : Option Addr} {n cap : Nat} {Ds : List (List Int)} (hP : PSrc B w bx a n Ds) :
    Calls Try.prog 5 #[.slice a n cap] W fun e w' => ∃ b : Bool, e = .returned (.bool b) ∧ w' = W := by
  have HP : Hid (PSrc B w bx a n Ds ∧ Ev B w rv l bx W) := ⟨hP, h⟩
  clear h hP
  by_cases hn : n ≤ 400
  · have b0 : ¬ (400 : Int) < (n : Int) := by omega
    have b0' : ¬ 400 < n := by omega
    have HN4 : Hid (n ≤ 400) := hn
    clear hn
    go_enter Try.func5, Try.ntmps5
    go_wp2
    go_loop [3, 4] (fun s i => ∃ (k : Nat) (y : Int), k ≤ n ∧ i = .int .i64 (k : Int) ∧ s = .int .i64 y) (fun _ i => n - (intOf i).toNat)
    case atStart => exact ⟨0, 0, Nat.zero_le _, rfl, rfl⟩
    case round =>
      obtain ⟨k, y, hk, rfl, rfl⟩ := hrel
      by_cases hlt : k < n
      · have b1 : (k : Int) < (n : Int) := by omega
        obtain ⟨b, o, u, rfl, hcu, hsu⟩ := HP.out.1.2 k hlt
        have c1 := hcu W HP.out.2.old (fun q hq => HP.out.2.at' q hq)
        obtain ⟨a', cap', rfl, _, _⟩ := id hsu
        obtain ⟨m, hmm⟩ : ∃ m, (Ds.getD k []).length = m := ⟨_, rfl⟩
        rw [hmm] at c1
        obtain ⟨z, hz⟩ : ∃ z, wrap64 (y + (m : Int)) = z := ⟨_, rfl⟩
        have hz' : IntKind.i64.wrap (y + (m : Int)) = z := by rw [← hz, IntKind.wrap_i64]; unfold wrap64; rfl
        have HX : Hid (k < n ∧ n ≤ 400) := ⟨hlt, HN4.out⟩
        clear hcu hsu hmm hk
        by_cases hgt : 131072 < z
        · go_wp2
          go_ret
          first | exact ⟨true, rfl, rfl⟩ | exact .inr ⟨rfl, rfl⟩ | exact ⟨.inr rfl, rfl⟩ | exact .inr rfl
        · go_wp2
          go_round
          case rel => exact ⟨k + 1, z, HX.out.1, by go_num, rfl⟩
          case measure => have := HX.out; simp only [intOf]; omega
      · have b1 : ¬ (k : Int) < (n : Int) := by omega
        clear hk
        go_wp2
        go_ret
        first | exact ⟨false, rfl, rfl⟩ | exact .inl ⟨rfl, rfl⟩ | exact ⟨.inl rfl, rfl⟩ | exact .inl rfl
  · have b0 : (400 : Int) < (n : Int) := by omega
    have b0' : 400 < n := by omega
    go_enter Try.func5, Try.ntmps5
    go_wp2
    go_ret
    first | exact ⟨true, rfl, rfl⟩ | exact .inr ⟨rfl, rfl⟩ | exact ⟨.inr rfl, rfl⟩ | exact .inr rfl
end Go.Proofs.Ytgfamcadgahiiab
