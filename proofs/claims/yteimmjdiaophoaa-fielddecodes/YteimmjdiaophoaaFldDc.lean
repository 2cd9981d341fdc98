import Derived.Test.YteimmjdiaophoaaFldH
import Derived.Test.YteimmjdiaophoaaRfF
namespace Go.Proofs.Yteimmjdiaophoaa
set_option linter.unusedSimpArgs false
set_option linter.unusedVariables false
open Go.ChangeShapes Go.WideShapes Go.ChangeAt Go.RowKit Go.Pin Go.Fld
theorem hold_load {P : Program} {ops : Array Oper} {rest : List Oper} {o : Oper} {a : Act} {w : World} {Q : Exit → Act → World → Prop} (ty : TypeId) (x : Operand) (_ : o.op = .load ty x) (h : Hid (wpList P ops Q (o :: rest) a w)) : wpList P ops Q (o :: rest) a w := h
theorem Bs.setk {w0 W : World} {ks bx : List (Nat × List Int)} {g : Nat} {x : List Int} (h : Bs w0 ((g, x) :: ks) bx W) (hg : w0.heap.size ≤ g) (hk : ∀ p ∈ ks, p.1 ≠ g) (hb : ∀ p ∈ bx, p.1 ≠ g) (i : Nat) (v : Int) : Bs w0 ((g, x.set i v) :: ks) bx (W.setCell ⟨g, i, none⟩ (.int .u8 v)) := by
  refine ⟨h.old.setCell hg _, fun p hp => ?_, fun p hp => ?_⟩
  · rcases List.mem_cons.1 hp with rfl | hp
    · exact rowB_set (h.keys (g, x) (by simp)) _ _
    · exact row_other (h.keys p (by simp [hp])) (hk p hp) _
  · exact row_other (h.rows p hp) (hb p hp) _
theorem Bs.subk {w0 W : World} {ks ls bx : List (Nat × List Int)} (h : Bs w0 ks bx W) (hs : ∀ p ∈ ls, p ∈ ks) : Bs w0 ls bx W := ⟨h.old, fun p hp => h.keys p (hs p hp), h.rows⟩
theorem bs_start1 (w : World) (x : List Int) : Bs w [(w.heap.size, x)] [] (w.alloc (.cells (VI .u8 x) 40)) := (Bs.refl w).newk x
/-- the highest binary digit turned -/
def flip (x : List Int) : List Int := x.set 31 (bits .xor .u8 (x.getD 31 0) 128)
theorem flip_byte (v : Int) (h0 : 0 ≤ v) (h1 : v < 256) : 0 ≤ bits .xor .u8 v 128 ∧ bits .xor .u8 v 128 < 256 ∧ ∀ j, j < 7 → (bits .xor .u8 v 128).toNat.testBit j = v.toNat.testBit j := by
  obtain ⟨n, rfl⟩ := Int.eq_ofNat_of_zero_le h0
  rw [show (128 : Int) = ((128 : Nat) : Int) from rfl, u8_xor_nat n 128 (by omega) (by decide)]
  have hlt : n ^^^ 128 < 2 ^ 8 := Nat.xor_lt_two_pow (by omega) (by decide)
  refine ⟨by omega, by omega, fun j hj => ?_⟩
  rw [Int.toNat_natCast, Int.toNat_natCast, Nat.testBit_xor, show (128 : Nat) = 2 ^ 7 by decide, Nat.testBit_two_pow]
  have : ¬ (7 = j) := by omega
  simp [this]
theorem flip_key {x : List Int} (h : Key32 x) : Key32 (flip x) := by
  have hm := h.bd _ (getD_mem (t := x) (i := 31) (by rw [h.len]; decide))
  obtain ⟨f0, f1, _⟩ := flip_byte _ hm.1 hm.2
  refine ⟨by simp [flip, h.len], fun y hy => ?_⟩
  rcases List.mem_or_eq_of_mem_set hy with hy | rfl
  · exact h.bd y hy
  · exact ⟨f0, f1⟩
theorem flip_nb {x : List Int} (h : Key32 x) : nb (flip x) % 2 ^ 255 = nb x % 2 ^ 255 := by
  have hm := h.bd _ (getD_mem (t := x) (i := 31) (by rw [h.len]; decide))
  obtain ⟨_, _, f2⟩ := flip_byte _ hm.1 hm.2
  apply Nat.eq_of_testBit_eq
  intro i
  rw [Nat.testBit_mod_two_pow, Nat.testBit_mod_two_pow, nb, nb, nbk_bit _ (flip_key h).bd, nbk_bit _ h.bd]
  by_cases hi : i < 255
  · by_cases h31 : i / 8 = 31
    · have e : (flip x).getD 31 0 = bits .xor .u8 (x.getD 31 0) 128 := by
        rw [flip, List.getD_eq_getElem?_getD, List.getElem?_set]; simp [h.len]
      rw [h31, e, f2 (i % 8) (by omega)]
    · have e : (flip x).getD (i / 8) 0 = x.getD (i / 8) 0 := by
        rw [flip, List.getD_eq_getElem?_getD, List.getElem?_set, if_neg (fun e => h31 e.symm), ← List.getD_eq_getElem?_getD]
      rw [e]
  · simp [hi]
/-- 2^255 - 19 and above -/
def pl (l : Int) : List Int := ((List.replicate 32 (255 : Int)).set 0 (237 + l)).set 31 127
theorem pl_facts : ∀ l : Nat, l < 19 → nb (pl l) % 2 ^ 255 % P = l ∧ bts l = kk l := by decide +kernel
theorem pl_key (l : Nat) (hl : l < 19) : Key32 (pl l) := ⟨by simp [pl], fun y hy => by
  rcases List.mem_or_eq_of_mem_set hy with hy | rfl
  · rcases List.mem_or_eq_of_mem_set hy with hy | rfl
    · have := List.eq_of_mem_replicate hy; omega
    · omega
  · omega⟩
theorem want31 (m : Nat) (hm : m < P) : (bts m).getD 31 0 < 128 := by
  rw [bts_getD m 31 (by decide), Nat.shiftRight_eq_div_pow]
  have : m < 57896044618658097711785492504343953926634992332820282019728792003956564819949 := hm
  simp only [Nat.reduceMul, Nat.reducePow]
  omega
theorem encs_f {a0 a1 a2 a3 a4 : Int} (ha : Lim [a0, a1, a2, a3, a4]) (m : Nat) (h : num [a0, a1, a2, a3, a4] = m) : Hid (∀ w, Calls Try.prog 19 #[.agg #[.int .u64 a0, .int .u64 a1, .int .u64 a2, .int .u64 a3, .int .u64 a4]] w fun e w' => e = .returned (.agg (VI .u8 (bts m))) ∧ Below w.heap.size w w') := fun w => by
  have := enc_any [a0, a1, a2, a3, a4] ha w
  rw [h] at this
  exact this
end Go.Proofs.Yteimmjdiaophoaa
