import Derived.Test.YtigapdfefapdgaaTraceS3
namespace Go.Proofs.Ytigapdfefapdgaa
set_option linter.unusedSimpArgs false
open Go.ChangeShapes Go.WideShapes Go.ChangeAt Go.RowKit Go.Pin
set_option maxHeartbeats 1000000 in
theorem behind_x (vl : Value) (l : List (Int × Int)) (n : Int) (w : World) (ha : Sl w vl 2 (evC l) l.length) :
    Calls Try.prog 22 #[vl, .int .i64 n] w fun e w' => ∃ v, e = .returned v ∧ Sl w v 2 (evC (beh l n)) (beh l n).length ∧ w' = w ∧ (∀ j, v.ownBlock = some j → vl.ownBlock = some j) := by
  obtain ⟨hlen, a, c, rfl, hcap, ha⟩ := ha
  generalize hL : l.length = len at *
  by_cases hge : (len : Int) ≤ n ∨ len = 0
  · have hz : beh l n = [] := by
      unfold beh
      exact List.drop_of_length_le (by omega)
    have hnil : Sl w (.slice none 0 0) 2 (evC (beh l n)) (beh l n).length := by
      rw [hz]
      exact ⟨rfl, _, _, rfl, Nat.le_refl _, .inl rfl⟩
    have HZ : Hid _ := hnil
    clear hz ha hlen hL hnil
    by_cases h0 : n < 0
    · have hl0 : len = 0 := by omega
      subst hl0
      clear hge
      go_enter Try.func22, Try.ntmps22
      go_wp2
      go_ret
      exact ⟨_, rfl, HZ.out, rfl, fun j h => by cases h⟩
    · have hl0 : (len : Int) ≤ n := by omega
      clear hge
      go_enter Try.func22, Try.ntmps22
      go_wp2
      go_ret
      exact ⟨_, rfl, HZ.out, rfl, fun j h => by cases h⟩
  · rcases ha with h0 | ⟨b, o, rfl, hc⟩
    · omega
    obtain ⟨m, hm⟩ : ∃ m : Nat, n.toNat = m := ⟨_, rfl⟩
    have hml : m < len := by omega
    have hb : beh l n = l.drop m := by unfold beh; rw [hm]
    have hfin : ∀ c', len - m ≤ c' → Sl w (.slice (some ⟨b, o + m * 2, none⟩) (len - m) c') 2 (evC (beh l n)) (beh l n).length := by
      intro c' hc'
      rw [hb, List.length_drop, hL]
      refine ⟨by rw [evC_len, List.length_drop, hL], _, _, rfl, hc', .inr ⟨b, o + m * 2, rfl, ?_⟩⟩
      intro j x hj
      rw [evC_drop, List.getElem?_drop] at hj
      rw [Nat.add_assoc]
      exact hc _ _ hj
    have HF : Hid _ := hfin
    clear hfin hb hc hlen hL
    by_cases h0 : n < 0
    · have hm0 : m = 0 := by omega
      subst hm0
      obtain ⟨len', rfl⟩ : ∃ q, len = q + 1 := ⟨len - 1, by omega⟩
      clear hge hm
      go_enter Try.func22, Try.ntmps22
      go_wp2
      go_ret
      refine ⟨_, rfl, ?_, rfl, fun j h => h⟩
      have := HF.out c (by omega)
      rw [Nat.zero_mul, Nat.add_zero, Nat.sub_zero] at this
      exact this
    · obtain ⟨k, rfl⟩ := Int.eq_ofNat_of_zero_le (show 0 ≤ n by omega)
      have hk : k = m := by omega
      subst hk
      have hl0 : ¬ (len : Int) ≤ (k : Int) := by omega
      have hck : ¬ c = k := by omega
      clear hge hm h0
      go_enter Try.func22, Try.ntmps22
      go_wp2
      go_ret
      refine ⟨_, rfl, ?_, rfl, fun j h => h⟩
      exact HF.out _ (by omega)

end Go.Proofs.Ytigapdfefapdgaa
