import Derived.Test.YtgfamcadgahiiabMacF
namespace Go.Proofs.Ytgfamcadgahiiab
set_option linter.unusedSimpArgs false
set_option linter.unusedVariables false
open Go.RowKit Go.Pin
theorem ret_int {k : IntKind} {a b : Int} (h : a = b) : Ending.returned (.int k a) = .returned (.int k b) := by rw [h]
set_option maxHeartbeats 400000 in
theorem equal_any (a b : Int) (w : World) (a0 : 0 ≤ a) (a1 : a < 18446744073709551616) (b0 : 0 ≤ b) (b1 : b < 18446744073709551616) :
    Calls Try.prog 29 #[.int .u64 a, .int .u64 b] w fun e w' => e = .returned (.int .u64 (eqB a b)) ∧ w' = w := by
  have hm := equal_math a b a0 a1 b0 b1
  have H : Hid _ := hm
  clear hm a0 a1 b0 b1
  go_enter Try.func29, Try.ntmps29
  go_wp2
  go_ret
  exact ⟨ret_int H.out, rfl⟩
/-- what has been gathered of the differences after k bytes -/
def dif (a b : List Int) : Nat → Int
  | 0 => 0
  | k + 1 => bits .or .u8 (dif a b k) (bits .xor .u8 (a[k]?.getD 0) (b[k]?.getD 0))
def eqL (a b : List Int) : Int := if a = b then 1 else 0
theorem dif_eq (a b : List Int) (n : Nat) (ha : a.length = n) (hb : b.length = n) (wa : ∀ x ∈ a, 0 ≤ x ∧ x < 256) (wb : ∀ x ∈ b, 0 ≤ x ∧ x < 256) :
    0 ≤ dif a b n ∧ dif a b n < 256 ∧ eqB (dif a b n) 0 = eqL a b := by
  have key : ∀ k, k ≤ n → ∃ x : BitVec 8, dif a b k = (x.toNat : Int) ∧ (x = 0#8 ↔ ∀ i, i < k → a[i]?.getD 0 = b[i]?.getD 0) := by
    intro k
    induction k with
    | zero => intro _; exact ⟨0#8, rfl, by simp⟩
    | succ k ih =>
      intro hk
      obtain ⟨x, hx, hi⟩ := ih (by omega)
      have hak : a[k]?.getD 0 = a[k]'(by omega) := by simp [show k < a.length by omega]
      have hbk : b[k]?.getD 0 = b[k]'(by omega) := by simp [show k < b.length by omega]
      obtain ⟨y, hy⟩ := ofBv8 (wa _ (List.getElem_mem (show k < a.length by omega))).1 (wa _ (List.getElem_mem (show k < a.length by omega))).2
      obtain ⟨z, hz⟩ := ofBv8 (wb _ (List.getElem_mem (show k < b.length by omega))).1 (wb _ (List.getElem_mem (show k < b.length by omega))).2
      refine ⟨x ||| (y ^^^ z), ?_, ?_⟩
      · unfold dif
        rw [hx, hak, hbk, hy, hz, xor8, or8]
      · rw [BitVec.or_eq_zero_iff, hi, BitVec.xor_eq_zero_iff]
        constructor
        · rintro ⟨h1, h2⟩ i hlt
          by_cases e : i = k
          · subst e; rw [hak, hbk, hy, hz, h2]
          · exact h1 i (by omega)
        · intro h1
          refine ⟨fun i hlt => h1 i (by omega), ?_⟩
          have := h1 k (by omega)
          rw [hak, hbk, hy, hz] at this
          exact BitVec.eq_of_toNat_eq (by omega)
  obtain ⟨x, hx, hi⟩ := key n (Nat.le_refl _)
  have := x.isLt
  refine ⟨by omega, by omega, ?_⟩
  unfold eqB eqL
  have h2 : (dif a b n = 0) ↔ a = b := by
    rw [hx]
    constructor
    · intro h
      have hz : x = 0#8 := BitVec.eq_of_toNat_eq (by simp; omega)
      have hall := hi.1 hz
      apply List.ext_getElem (by omega)
      intro i h1 h2
      have := hall i (by omega)
      simpa [h1, h2] using this
    · intro h
      subst h
      rw [hi.2 (fun _ _ => rfl)]
      rfl
  by_cases h : a = b
  · rw [if_pos h, if_pos (h2.2 h)]
  · rw [if_neg h, if_neg (fun e => h (h2.1 e))]
set_option maxRecDepth 100000 in
set_option maxHeartbeats 400000 in
theorem tags_any (a b : List Int) (ha : a.length = 16) (hb : b.length = 16) (wa : ∀ x ∈ a, 0 ≤ x ∧ x < 256) (wb : ∀ x ∈ b, 0 ≤ x ∧ x < 256) (w : World) :
    Calls Try.prog 18 #[.agg (VI .u8 a), .agg (VI .u8 b)] w fun e w' => e = .returned (.int .u64 (eqL a b)) ∧ Below w.heap.size w w' := by
  have hx := fun (i : Nat) (h : i < 16) (w : World) => run_index_row (P := Try.prog) w 27 5 .u8 .i64 16 a i ha h Try.underlying27 Try.underlying5 size_u8
  have hc := fun (i : Nat) (h : i < 16) => VI_at .u8 b i (by omega)
  have sa := VI_size .u8 a
  have sb := VI_size .u8 b
  rw [ha] at sa
  rw [hb] at sb
  have hi : (Try.prog.info? 27).map (·.size) = some (VI .u8 a).size := by rw [sa]; exact infoT
  have HI : Hid _ := hi
  obtain ⟨d0, d1, d2⟩ := dif_eq a b 16 ha hb wa wb
  have HD : Hid _ := d2
  clear wa wb ha hb hi d2
  go_enter Try.func18, Try.ntmps18
  go_wp2_with (refine wpList_load_row rfl 27 _ rfl _ rfl 27 (VI .u8 a) (0, 0) _ (heap_alloc2_old w _ _) Try.underlying27 rfl HI.out ?_)
  go_loop [5, 9] (fun d i => ∃ k : Nat, k ≤ 16 ∧ i = .int .i64 k ∧ d = .int .u8 (dif a b k)) (fun _ i => 16 - (intOf i).toNat)
  case atStart => exact ⟨0, Nat.zero_le _, rfl, rfl⟩
  case round =>
    obtain ⟨k, hk, rfl, rfl⟩ := hrel
    by_cases hlt : k < 16
    · have hxk := hx k hlt
      go_wp2
      go_round
      case rel => exact ⟨k + 1, by omega, by go_num, rfl⟩
      case measure => simp [intOf]; omega
    · have hk' : k = 16 := by omega
      subst hk'
      go_wp2_with fail
      refine (equal_any _ _ _ (by omega) (by omega) (by omega) (by omega)).mono ?_
      rintro e w' ⟨rfl, rfl⟩
      go_wp2_with fail
      go_ret
      exact ⟨ret_int HD.out, ((Below.refl _ _).alloc (Nat.le_refl _) _).alloc (by simp) _⟩
end Go.Proofs.Ytgfamcadgahiiab
