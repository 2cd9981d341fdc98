import Derived.Test.YtlffamcifahbjabFldW
namespace Go.Proofs.Ytlffamcifahbjab
set_option linter.unusedSimpArgs false
open Go.ChangeShapes Go.WideShapes Go.ChangeAt Go.RowKit Go.Pin Go.Fld
/-- the number of limbs -/
def num (a : List Int) : Nat := (V a % 57896044618658097711785492504343953926634992332820282019728792003956564819949).toNat
theorem num_lt (a : List Int) : num a < P := by
  have := Int.emod_lt_of_pos (V a) (show (0 : Int) < 57896044618658097711785492504343953926634992332820282019728792003956564819949 by decide)
  have h2 := Int.emod_nonneg (V a) (show (57896044618658097711785492504343953926634992332820282019728792003956564819949 : Int) ≠ 0 by decide)
  unfold num P
  omega
theorem num_cast (a : List Int) : (num a : Int) = V a % 57896044618658097711785492504343953926634992332820282019728792003956564819949 := by
  have h2 := Int.emod_nonneg (V a) (show (57896044618658097711785492504343953926634992332820282019728792003956564819949 : Int) ≠ 0 by decide)
  unfold num
  omega
theorem num_of {a : List Int} {n : Nat} (h : V a % 57896044618658097711785492504343953926634992332820282019728792003956564819949 = (n : Int) % 57896044618658097711785492504343953926634992332820282019728792003956564819949) : num a = n % P := by
  have := num_cast a
  rw [h] at this
  have h3 : ((n % P : Nat) : Int) = (n : Int) % 57896044618658097711785492504343953926634992332820282019728792003956564819949 := rfl
  omega
theorem bts_inj {n m : Nat} (hn : n < P) (hm : m < P) (h : bts n = bts m) : n = m := by
  have h1 := nb_bts n (Nat.lt_trans hn (by decide))
  have h2 := nb_bts m (Nat.lt_trans hm (by decide))
  rw [← h1, ← h2, h]
theorem bts_beq (n m : Nat) (hn : n < P) (hm : m < P) : (bts n == bts m) = decide (n = m) := by
  by_cases h : n = m
  · subst h; simp
  · have : ¬ bts n = bts m := fun e => h (bts_inj hn hm e)
    simp [h, this]
theorem enc_any (a : List Int) (ha : Lim a) (w : World) : Calls Try.prog 18 #[.agg (VI .u64 a)] w fun e w' => e = .returned (.agg (VI .u8 (bts (num a)))) ∧ Below w.heap.size w w' := encode_any a ha w
theorem fswap_nil1 (rv : Value) (s : Int) (q : Option Addr) (w : World) :
    Calls Try.prog 24 #[rv, .int .u64 s, .pointer none, .pointer q] w fun e w' => e = .returned (.tuple #[]) ∧ w' = w := by
  go_enter Try.func24, Try.ntmps24
  go_wp2
  exact bodyPost_ret (results_none rfl _ _ _) rfl ⟨rfl, rfl⟩
theorem fswap_nil2 (rv : Value) (s : Int) (q : Option Addr) (w : World) :
    Calls Try.prog 24 #[rv, .int .u64 s, .pointer q, .pointer none] w fun e w' => e = .returned (.tuple #[]) ∧ w' = w := by
  cases q
  all_goals
    go_enter Try.func24, Try.ntmps24
    go_wp2
    exact bodyPost_ret (results_none rfl _ _ _) rfl ⟨rfl, rfl⟩
theorem SwI.base {ga oa gb ob : Nat} {w wr : World} {a b x y : List Int} {k : Nat} (h : SwI ga oa gb ob w.drew a b x y k wr) : SwI ga oa gb ob w a b x y k wr :=
  ⟨⟨h.cw.os, h.cw.tape, h.cw.output, h.cw.size, h.cw.obj, h.cw.other⟩, h.ca, h.cb, h.fa, h.fb⟩
theorem SwI.both {ga oa gb ob : Nat} {w : World} {a b x y : List Int} {k : Nat} (h : SwI ga oa gb ob w a b x y k w) : SwI ga oa gb ob w.drew a b x y k w.drew :=
  ⟨CW.refl _ _, h.ca, h.cb, h.fa, h.fb⟩
/-- Swap, of two Elements or of one with itself -/
theorem mswap_any (s : Int) (s0 : 0 ≤ s) (s1 : s < 18446744073709551616) (ga oa gb ob : Nat) (a b : List Int) (ha : Lim a) (hb : Lim b) (w : World) (h0 : SwI ga oa gb ob w a b (swp s a b) (swp s b a) 0 w)
    (hd : (∀ i j, i < 5 → j < 5 → (⟨ga, oa + i, none⟩ : Addr) ≠ ⟨gb, ob + j, none⟩) ∨ (ga = gb ∧ oa = ob ∧ a = b)) :
    Calls Try.prog 34 #[.int .u64 s, .pointer (some ⟨ga, oa, none⟩), .pointer (some ⟨gb, ob, none⟩)] w fun e w' => e = .returned (.tuple #[]) ∧ SwI ga oa gb ob w a b (swp s a b) (swp s b a) 5 w' := by
  rcases hd with hd | ⟨rfl, rfl, rfl⟩
  · exact mswap_two s s0 s1 ga oa gb ob a b ha hb w h0 hd
  · have e : swp s a a = a := by unfold swp; split <;> rfl
    rw [e] at h0 ⊢
    exact mswap_one s s0 s1 ga oa a ha w h0
set_option maxRecDepth 100000 in
set_option maxHeartbeats 1000000 in
theorem fswap_any (rv : Value) (s : Int) (s0 : 0 ≤ s) (s1 : s < 18446744073709551616) (ga oa gb ob : Nat) (a b : List Int) (ha : Lim a) (hb : Lim b) (w : World) (Q : World → Prop)
    (hc : Calls Try.prog 29 #[rv, .int .i64 7] w fun e W1 => e = .returned (.tuple #[]) ∧ Q W1)
    (h0 : ∀ W1, Q W1 → SwI ga oa gb ob W1 a b (swp s a b) (swp s b a) 0 W1) (hd : (∀ i j, i < 5 → j < 5 → (⟨ga, oa + i, none⟩ : Addr) ≠ ⟨gb, ob + j, none⟩) ∨ (ga = gb ∧ oa = ob ∧ a = b)) :
    Calls Try.prog 24 #[rv, .int .u64 s, .pointer (some ⟨ga, oa, none⟩), .pointer (some ⟨gb, ob, none⟩)] w fun e w' => e = .returned (.tuple #[]) ∧ ∃ W1, Q W1 ∧ SwI ga oa gb ob W1 a b (swp s a b) (swp s b a) 5 w' := by
  have HC : Hid (Calls Try.prog 29 #[rv, .int .i64 7] w fun e W1 => e = .returned (.tuple #[]) ∧ Q W1) := hc
  have HM : Hid (∀ W1, Q W1 → Calls Try.prog 34 #[.int .u64 s, .pointer (some ⟨ga, oa, none⟩), .pointer (some ⟨gb, ob, none⟩)] W1.drew fun e w' => e = .returned (.tuple #[]) ∧ SwI ga oa gb ob W1.drew a b (swp s a b) (swp s b a) 5 w') := fun W1 hq => mswap_any s s0 s1 ga oa gb ob a b ha hb W1.drew (h0 W1 hq).both hd
  clear hc h0 hd ha hb
  go_enter Try.func24, Try.ntmps24
  go_wp2_with (go_at_call 29; refine HC.out.mono ?_; rintro e W1 ⟨rfl, hQ⟩)
  go_region_with (go_at_call 34; refine (HM.out W1 hQ).mono ?_; rintro e w2 ⟨rfl, hS⟩)
  all_goals (
    have HS : Hid (SwI ga oa gb ob W1 a b (swp s a b) (swp s b a) 5 w2) := hS.base
    clear hS
    go_wp2
    go_end0
    exact ⟨rfl, W1, hQ, HS.out⟩)
end Go.Proofs.Ytlffamcifahbjab
