import Derived.Laws.BitsAllLaws
import Derived.Test.YtacofgmnmofkpaaMfaa
import Derived.Test.YtacofgmnmofkpaaMfad
namespace Go.Fld
/-- what least leaves -/
def lst (a : List Int) : List Int := cy 0 ((stl a).set 0 ((stl a).getD 0 0 + 19 * co 0 ((stl a).set 0 ((stl a).getD 0 0 + 19))))
theorem V_bd52 {l : List Int} (h : Lim l) : 0 ≤ V l := by
  obtain ⟨a, b, c, d, e, rfl⟩ := five h.len
  have hb := h.bd
  simp only [List.mem_cons, List.not_mem_nil, or_false, forall_eq_or_imp, forall_eq] at hb
  simp only [V_cons, V_nil]
  omega
theorem lst_facts {a : List Int} (h : Lim a) : ∃ s0 s1 s2 s3 s4 c, stl a = [s0, s1, s2, s3, s4] ∧ 0 ≤ s0 ∧ s0 < 4503599627370496 ∧ 0 ≤ s1 ∧ s1 < 4503599627370496 ∧ 0 ≤ s2 ∧ s2 < 4503599627370496 ∧ 0 ≤ s3 ∧ s3 < 4503599627370496 ∧ 0 ≤ s4 ∧ s4 < 4503599627370496 ∧ co 0 [s0 + 19, s1, s2, s3, s4] = c ∧ 0 ≤ c ∧ c ≤ 1 ∧ lst a = cy 0 [s0 + 19 * c, s1, s2, s3, s4] ∧ V (lst a) = V a % 57896044618658097711785492504343953926634992332820282019728792003956564819949 ∧ (∀ x ∈ lst a, 0 ≤ x ∧ x < 2251799813685248) ∧ (lst a).length = 5 := by
  obtain ⟨hl, hv, v0, v1, o0, o1⟩ := stl_lim a h.len (fun x hx => by have := h.bd x hx; omega)
  have hob := co_bd a 0 2 (by decide) (by decide) (fun x hx => by have := h.bd x hx; omega)
  have hb := hl.bd
  obtain ⟨s0, s1, s2, s3, s4, hs⟩ := five hl.len
  unfold lst
  rw [hs] at hb hv v0 v1 ⊢
  simp only [List.mem_cons, List.not_mem_nil, or_false, forall_eq_or_imp, forall_eq] at hb
  simp only [List.getD_cons_zero, List.set_cons_zero]
  have e1 := cy_V [s0 + 19, s1, s2, s3, s4] 0
  have l1 := cy_lt [s0 + 19, s1, s2, s3, s4] 0
  have k1 := V_lt _ l1
  generalize hc : co 0 [s0 + 19, s1, s2, s3, s4] = c at *
  have e2 := cy_V [s0 + 19 * c, s1, s2, s3, s4] 0
  have l2 := cy_lt [s0 + 19 * c, s1, s2, s3, s4] 0
  have k2 := V_lt _ l2
  simp only [cy_len, List.length_cons, List.length_nil] at e1 e2 k1 k2
  rw [show (2251799813685248 : Int) ^ (0 + 1 + 1 + 1 + 1 + 1) = 57896044618658097711785492504343953926634992332820282019728792003956564819968 by decide] at e1 e2 k1 k2
  have f1 : V [s0 + 19, s1, s2, s3, s4] = V [s0, s1, s2, s3, s4] + 19 := by simp only [V_cons]; omega
  have f2 : V [s0 + 19 * c, s1, s2, s3, s4] = V [s0, s1, s2, s3, s4] + 19 * c := by simp only [V_cons]; omega
  rw [f1] at e1
  rw [f2] at e2
  generalize V (cy 0 [s0 + 19, s1, s2, s3, s4]) = y1 at *
  generalize V (cy 0 [s0 + 19 * c, s1, s2, s3, s4]) = y2 at *
  generalize co 0 [s0 + 19 * c, s1, s2, s3, s4] = c2 at *
  generalize V [s0, s1, s2, s3, s4] = v at *
  have hc01 : 0 ≤ c ∧ c ≤ 1 := by omega
  refine ⟨s0, s1, s2, s3, s4, c, rfl, hb.1.1, hb.1.2, hb.2.1.1, hb.2.1.2, hb.2.2.1.1, hb.2.2.1.2, hb.2.2.2.1.1, hb.2.2.2.1.2, hb.2.2.2.2.1, hb.2.2.2.2.2, hc, hc01.1, hc01.2, rfl, ?_, l2, by simp⟩
  rw [← hv]
  have h01 : c = 0 ∨ c = 1 := by omega
  clear hb l1 l2 hc
  rcases h01 with h | h
  · have : c2 = 0 := by omega
    omega
  · have : c2 = 1 := by omega
    omega
end Go.Fld
namespace Go.Proofs.Ytacofgmnmofkpaa
set_option linter.unusedSimpArgs false
open Go.ChangeShapes Go.WideShapes Go.ChangeAt Go.RowKit Go.Pin Go.Fld
theorem but_setRow (w : World) (g : Nat) (cs : Array Value) : But (fun k => k = g) w (w.setRow g cs) :=
  ⟨rfl, rfl, rfl, size_setRow _ _ _, fun k hk => setRow_other w g k _ hk⟩
/-- least's boxes: a, the result, more -/
structure LW (n : Nat) (w : World) (x m : List Int) (wr : World) : Prop where
  old : Below n w wr
  ha : rowAt wr n x 47
  hr : rowAt wr (n + 1) (List.replicate 5 0) 45
  hm : rowAt wr (n + 2) m 45
theorem LW.setM {n : Nat} {w wr : World} {x m : List Int} (h : LW n w x m wr) (i : Nat) (v : Int) : LW n w x (m.set i v) (wr.setCell ⟨n + 2, i, none⟩ (.int .u64 v)) :=
  ⟨h.old.setCell (by simp) _, row_other h.ha (by simp) _, row_other h.hr (by simp) _, row_set h.hm _ _⟩
theorem LW.setA {n : Nat} {w wr : World} {x m : List Int} (h : LW n w x m wr) (i : Nat) (v : Int) : LW n w (x.set i v) m (wr.setCell ⟨n, i, none⟩ (.int .u64 v)) :=
  ⟨h.old.setCell (by simp) _, row_set h.ha _ _, row_other h.hr (by simp) _, row_other h.hm (by simp) _⟩
theorem LW.rowM {n : Nat} {w wr : World} {x m : List Int} (h : LW n w x m wr) (y : List Int) : LW n w x y (wr.setRow (n + 2) (VI .u64 y)) :=
  have b := but_setRow wr (n + 2) (VI .u64 y)
  ⟨h.old.trans (b.below (fun k hk => by omega)), (b.block _ (by omega)).trans h.ha, (b.block _ (by omega)).trans h.hr, setRow_heap _ _ _ _ _ _ h.hm⟩
theorem LW.rowA {n : Nat} {w wr : World} {x m : List Int} (h : LW n w x m wr) (y : List Int) : LW n w y m (wr.setRow n (VI .u64 y)) :=
  have b := but_setRow wr n (VI .u64 y)
  ⟨h.old.trans (b.below (fun k hk => by omega)), setRow_heap _ _ _ _ _ _ h.ha, (b.block _ (by omega)).trans h.hr, (b.block _ (by omega)).trans h.hm⟩
theorem LW.drew {n : Nat} {w wr : World} {x m : List Int} (h : LW n w x m wr) : LW n w x m wr.drew := ⟨h.old.drew, h.ha, h.hr, h.hm⟩
theorem lw_start (w : World) (a : List Int) : rowAt ((w.alloc (.cells (VI .u64 a) 47)).alloc (.cells (VI .u64 (List.replicate 5 0)) 45)) w.heap.size a 47 ∧
    rowAt ((w.alloc (.cells (VI .u64 a) 47)).alloc (.cells (VI .u64 (List.replicate 5 0)) 45)) (w.heap.size + 1) (List.replicate 5 0) 45 ∧
    ((w.alloc (.cells (VI .u64 a) 47)).alloc (.cells (VI .u64 (List.replicate 5 0)) 45)).heap.size = w.heap.size + 2 ∧
    Below w.heap.size w ((w.alloc (.cells (VI .u64 a) 47)).alloc (.cells (VI .u64 (List.replicate 5 0)) 45)) := by
  refine ⟨?_, ?_, by simp [size_alloc], ((Below.refl _ _).alloc (Nat.le_refl _) _).alloc (by simp) _⟩
  all_goals simp only [rowAt, heap_alloc_any, size_alloc]
  · rw [if_neg (by omega), if_pos trivial]
  · rw [if_pos trivial]
theorem lw_next {w W1 w2 : World} {s : List Int} (m : List Int) (h1 : rowAt W1 (w.heap.size + 1) (List.replicate 5 0) 45) (hs : W1.heap.size = w.heap.size + 2) (hb : Below w.heap.size w W1) (hu : Up w.heap.size 47 s W1 w2) :
    LW w.heap.size w s m (w2.alloc (.cells (VI .u64 m) 45)) ∧ w2.heap.size = w.heap.size + 2 := by
  have h2 : w2.heap.size = w.heap.size + 2 := hu.but.size.trans hs
  refine ⟨⟨(hb.trans (hu.but.below (fun k hk => by omega))).alloc (by omega) _, ?_, ?_, ?_⟩, h2⟩
  · simp only [rowAt, heap_alloc_any, h2]; rw [if_neg (by omega)]; exact hu.row
  · simp only [rowAt, heap_alloc_any, h2]; rw [if_neg (by omega)]; exact (hu.but.block _ (by omega)).trans h1
  · simp only [rowAt, heap_alloc_any, h2]; rw [if_pos trivial]
set_option maxRecDepth 100000 in
set_option maxHeartbeats 4000000 in
theorem least_any (a : List Int) (ha : Lim a) (w : World) :
    Calls Try.prog 47 #[.agg (VI .u64 a)] w fun e w' => e = .returned (.agg (VI .u64 (lst a))) ∧ Below w.heap.size w w' := by
  obtain ⟨s0, s1, s2, s3, s4, c, hs, p0, q0, p1, q1, p2, q2, p3, q3, p4, q4, hc, c0, c1, hl, _, hlb, hll⟩ := lst_facts ha
  obtain ⟨x0, x1, x2, x3, x4, hx⟩ := five hll
  have HL : Hid (lst a = [x0, x1, x2, x3, x4]) := hx
  have HC : Hid (co 0 [s0 + 19, s1, s2, s3, s4] = c) := hc
  have HE : Hid (lst a = cy 0 [s0 + 19 * c, s1, s2, s3, s4]) := hl
  obtain ⟨r1, r2, hsz, hbw⟩ := lw_start w a
  obtain ⟨W, hW⟩ : ∃ W, (w.alloc (.cells (VI .u64 a) 47)).alloc (.cells (VI .u64 (List.replicate 5 0)) 45) = W := ⟨_, rfl⟩
  have hW' : (w.alloc (.cells (VI .u64 a) 47)).alloc (.cells #[.int .u64 0, .int .u64 0, .int .u64 0, .int .u64 0, .int .u64 0] 45) = W := hW
  rw [hW] at r1 r2 hsz hbw
  have HST : Hid (∀ w2, Up w.heap.size 47 (stl a) W w2 → rowAt w2 w.heap.size [s0, s1, s2, s3, s4] 47 ∧ LW w.heap.size w [s0, s1, s2, s3, s4] [s0 + 19, s1, s2, s3, s4] (w2.alloc (.cells #[.int .u64 (s0 + 19), .int .u64 s1, .int .u64 s2, .int .u64 s3, .int .u64 s4] 45)) ∧ w2.heap.size = w.heap.size + 2) := fun w2 hu => by
    rw [hs] at hu
    exact ⟨hu.row, lw_next [s0 + 19, s1, s2, s3, s4] r2 hsz hbw hu⟩
  have HSA : Hid (Calls Try.prog 57 #[.pointer (some ⟨w.heap.size, 0, none⟩)] W fun e w' => e = .returned (.tuple #[]) ∧ Up w.heap.size 47 (stl a) W w') := settle_any w.heap.size 47 a ha.len (fun x hx => by have := ha.bd x hx; omega) W r1
  clear hW r1 r2 hsz hbw hlb hll hx hc hl hs ha
  go_enter Try.func47, Try.ntmps47
  go_wp2_with (go_at_call 57; refine HSA.out.mono ?_; rintro e w2 ⟨rfl, hU⟩; obtain ⟨hr2, hlw, hs2⟩ := HST.out w2 hU; obtain ⟨hc0, hc1, hc2, hc3, hc4⟩ := cells5 hr2; have HLW : Hid (LW w.heap.size w [s0, s1, s2, s3, s4] [s0 + 19, s1, s2, s3, s4] (w2.alloc (.cells #[.int .u64 (s0 + 19), .int .u64 s1, .int .u64 s2, .int .u64 s3, .int .u64 s4] 45))) := hlw; clear hr2 hlw hU HSA HST)
  obtain ⟨W3, hW3⟩ : ∃ W3, w2.alloc (.cells #[.int .u64 (s0 + 19), .int .u64 s1, .int .u64 s2, .int .u64 s3, .int .u64 s4] 45) = W3 := ⟨_, rfl⟩
  rw [hW3] at HLW ⊢
  clear hW3 hc0 hc1 hc2 hc3 hc4 hs2
  obtain ⟨hc0, _, _, _, _⟩ := cells5 HLW.out.ha
  have hf0 : W3.frozen? ⟨w.heap.size, 0, none⟩ = false := frozen_of_row W3 _ _ _ _ HLW.out.ha
  have HCA : Hid (∀ W, rowAt W (w.heap.size + 2) [s0 + 19, s1, s2, s3, s4] 45 → Calls Try.prog 63 #[.pointer (some ⟨w.heap.size + 2, 0, none⟩)] W fun e w' => e = .returned (.int .u64 c) ∧ w' = W.setRow (w.heap.size + 2) (VI .u64 (cy 0 [s0 + 19, s1, s2, s3, s4]))) := fun W hw => by
    have := carry_any (w.heap.size + 2) 45 [s0 + 19, s1, s2, s3, s4] rfl (by simp only [List.mem_cons, List.not_mem_nil, or_false, forall_eq_or_imp, forall_eq]; omega) W hw
    rw [HC.out] at this
    exact this
  have HCB : Hid (∀ W, rowAt W w.heap.size [s0 + 19 * c, s1, s2, s3, s4] 47 → Calls Try.prog 63 #[.pointer (some ⟨w.heap.size, 0, none⟩)] W fun e w' => e = .returned (.int .u64 (co 0 [s0 + 19 * c, s1, s2, s3, s4])) ∧ w' = W.setRow w.heap.size (VI .u64 (lst a))) := fun W hw => by
    have := carry_any w.heap.size 47 [s0 + 19 * c, s1, s2, s3, s4] rfl (by simp only [List.mem_cons, List.not_mem_nil, or_false, forall_eq_or_imp, forall_eq]; omega) W hw
    rw [← HE.out] at this
    exact this
  have hwc : IntKind.u64.wrap (19 * c) = 19 * c := by rw [IntKind.wrap_u64]; omega
  have hws : IntKind.u64.wrap (s0 + 19 * c) = s0 + 19 * c := by rw [IntKind.wrap_u64]; omega
  go_region_with (go_at_call 63; refine (HCA.out W3.drew HLW.out.hm).mono ?_; rintro e w4 ⟨rfl, hw4⟩; have hlw4 := HLW.out.drew.rowM (cy 0 [s0 + 19, s1, s2, s3, s4]); rw [← hw4] at hlw4; obtain ⟨hd0, _, _, _, _⟩ := cells5 hlw4.ha; have hf4 : w4.frozen? ⟨w.heap.size, 0, none⟩ = false := frozen_of_row w4 _ _ _ _ hlw4.ha; have HL4 : Hid (LW w.heap.size w [s0 + 19 * c, s1, s2, s3, s4] (cy 0 [s0 + 19, s1, s2, s3, s4]) (w4.setCell ⟨w.heap.size, 0, none⟩ (.int .u64 (s0 + 19 * c)))) := hlw4.setA 0 _; clear hlw4 hw4)
  all_goals (
    obtain ⟨W5, hW5⟩ : ∃ W5, w4.setCell ⟨w.heap.size, 0, none⟩ (.int .u64 (s0 + 19 * c)) = W5 := ⟨_, rfl⟩
    rw [hW5] at HL4 ⊢
    clear hW5 hd0 hf4 hc0 hf0
    go_wp2_with (go_at_call 63; refine (HCB.out _ HL4.out.ha).mono ?_; rintro e w6 ⟨rfl, hw6⟩; have hl6 := HL4.out.rowA (lst a); rw [← hw6, HL.out] at hl6; obtain ⟨hx0, hx1, hx2, hx3, hx4⟩ := cells5 hl6.ha; obtain ⟨_, _, _, _, _, _, hy0, hy1, hy2, hy3, hy4, hz0, hz1, hz2, hz3, hz4⟩ := row5 hl6.hr (by simp); have HL6 : Hid (LW w.heap.size w [x0, x1, x2, x3, x4] (cy 0 [s0 + 19, s1, s2, s3, s4]) w6) := hl6; clear hl6 hw6)
    refine bodyPost_ret (v := .agg (VI .u64 [x0, x1, x2, x3, x4])) ?_ rfl ⟨by rw [HL.out], ((((HL6.out.old.setCell (by simp) _).setCell (by simp) _).setCell (by simp) _).setCell (by simp) _).setCell (by simp) _⟩
    exact results_cell_row (P := Try.prog) (fn := Try.f47) (p := 2) (ty := 45) rfl _ _ (w.heap.size + 1) 45 (VI .u64 [x0, x1, x2, x3, x4]) (0, 0) _ rfl (store5 HL6.out.hr x0 x1 x2 x3 x4) Try.underlying45 rfl infoA5)
end Go.Proofs.Ytacofgmnmofkpaa
namespace Go.Fld
open Go
def limb (n j : Nat) : Nat := n >>> (51 * j) % 2 ^ 51
def bts (n : Nat) : List Int := (List.range 32).map fun i => ((n >>> (8 * i) % 256 : Nat) : Int)
@[simp] theorem bts_len (n : Nat) : (bts n).length = 32 := by simp [bts]
theorem bts_at (n i : Nat) (h : i < 32) : (bts n)[i]'(by simpa using h) = ((n >>> (8 * i) % 256 : Nat) : Int) := by simp [bts]
theorem enc_bits (n q r k : Nat) (hk : 8 * k = 51 * q + r) (hr : r < 51) :
    (limb n q >>> r ||| (limb n (q + 1) <<< (51 - r)) % 2 ^ 64) % 2 ^ 8 = n >>> (8 * k) % 2 ^ 8 := by
  apply Nat.eq_of_testBit_eq
  intro i
  simp only [limb, Nat.testBit_mod_two_pow, Nat.testBit_or, Nat.testBit_shiftRight, Nat.testBit_shiftLeft]
  by_cases hi : i < 8
  · by_cases h1 : r + i < 51
    · have e1 : ¬ (51 - r ≤ i) := by omega
      have e2 : 51 * q + (r + i) = 8 * k + i := by omega
      simp [hi, h1, e1, e2]
    · have e1 : 51 - r ≤ i := by omega
      have e2 : 51 * (q + 1) + (i - (51 - r)) = 8 * k + i := by omega
      have e3 : i < 64 := by omega
      have e4 : i - (51 - r) < 51 := by omega
      simp [hi, h1, e1, e2, e3, e4]
  · simp [hi]
theorem limb_lt (n j : Nat) : limb n j < 2251799813685248 := by unfold limb; omega
theorem enc_math (n q r k : Nat) (hk : 8 * k = 51 * q + r) (hr : r < 51) :
    bits .or .u64 ((limb n q : Int) / 2 ^ r) (IntKind.u64.wrap ((limb n (q + 1) : Int) * 2 ^ (51 - r))) % 256 = ((n >>> (8 * k) % 256 : Nat) : Int) := by
  have h1 : ((limb n q : Nat) : Int) / 2 ^ r = ((limb n q >>> r : Nat) : Int) := by
    rw [Nat.shiftRight_eq_div_pow]; simp
  have h2 : IntKind.u64.wrap ((limb n (q + 1) : Int) * 2 ^ (51 - r)) = (((limb n (q + 1) <<< (51 - r)) % 2 ^ 64 : Nat) : Int) := by
    rw [IntKind.wrap_u64, Nat.shiftLeft_eq]; simp
  rw [h1, h2, u64_or_nat _ _ (by have := limb_lt n q; have := Nat.shiftRight_le (limb n q) r; omega) (by omega)]
  have := enc_bits n q r k hk hr
  rw [show (2 : Nat) ^ 8 = 256 by decide] at this
  rw [← this]
  simp
theorem V_limbs {l : List Int} (h5 : l.length = 5) (hb : ∀ x ∈ l, 0 ≤ x ∧ x < 2251799813685248) (j : Nat) (hj : j < 6) : (l ++ [0]).getD j 0 = ((limb (V l).toNat j : Nat) : Int) ∧ (V l).toNat < 57896044618658097711785492504343953926634992332820282019728792003956564819968 := by
  obtain ⟨a, b, c, d, e, rfl⟩ := five h5
  simp only [List.mem_cons, List.not_mem_nil, or_false, forall_eq_or_imp, forall_eq] at hb
  obtain ⟨⟨a0, a1⟩, ⟨b0, b1⟩, ⟨c0, c1⟩, ⟨d0, d1⟩, ⟨e0, e1⟩⟩ := hb
  have hV : V [a, b, c, d, e] = a + 2251799813685248 * (b + 2251799813685248 * (c + 2251799813685248 * (d + 2251799813685248 * (e + 2251799813685248 * 0)))) := rfl
  rw [hV]
  obtain ⟨a, rfl⟩ := Int.eq_ofNat_of_zero_le a0
  obtain ⟨b, rfl⟩ := Int.eq_ofNat_of_zero_le b0
  obtain ⟨c, rfl⟩ := Int.eq_ofNat_of_zero_le c0
  obtain ⟨d, rfl⟩ := Int.eq_ofNat_of_zero_le d0
  obtain ⟨e, rfl⟩ := Int.eq_ofNat_of_zero_le e0
  have hn : ((a : Int) + 2251799813685248 * (b + 2251799813685248 * (c + 2251799813685248 * (d + 2251799813685248 * (e + 2251799813685248 * 0))))).toNat = a + 2251799813685248 * (b + 2251799813685248 * (c + 2251799813685248 * (d + 2251799813685248 * e))) := by omega
  rw [hn]
  unfold limb
  rw [Nat.shiftRight_eq_div_pow]
  refine ⟨?_, by omega⟩
  have h6 : j = 0 ∨ j = 1 ∨ j = 2 ∨ j = 3 ∨ j = 4 ∨ j = 5 := by omega
  rcases h6 with rfl | rfl | rfl | rfl | rfl | rfl
  all_goals simp only [List.cons_append, List.nil_append, List.getD_cons_zero, List.getD_cons_succ]
  all_goals simp only [Nat.reduceMul, Nat.reducePow]
  all_goals omega
/-! the number of 32 bytes -/
def nbk (b : List Int) : Nat → Nat
  | 0 => 0
  | k + 1 => nbk b k ||| (b.getD k 0).toNat <<< (8 * k)
def nb (b : List Int) : Nat := nbk b 32
theorem nbk_bit (b : List Int) (hb : ∀ x ∈ b, 0 ≤ x ∧ x < 256) : ∀ k i, (nbk b k).testBit i = (decide (i < 8 * k) && (b.getD (i / 8) 0).toNat.testBit (i % 8))
  | 0, i => by simp [nbk]
  | k + 1, i => by
    have ih := nbk_bit b hb k i
    have hx : (b.getD k 0).toNat < 2 ^ 8 := by
      by_cases h : k < b.length
      · have := hb _ (List.getElem_mem h)
        rw [List.getD_eq_getElem?_getD, List.getElem?_eq_getElem h]
        simp only [Option.getD_some]
        omega
      · rw [List.getD_eq_getElem?_getD, List.getElem?_eq_none (by omega)]; simp
    rw [nbk, Nat.testBit_or, ih, Nat.testBit_shiftLeft]
    by_cases h1 : i < 8 * k
    · have e1 : ¬ (8 * k ≤ i) := by omega
      have e2 : i < 8 * (k + 1) := by omega
      simp [h1, e1, e2]
    · by_cases h2 : i < 8 * (k + 1)
      · have e1 : 8 * k ≤ i := by omega
        have e3 : i / 8 = k := by omega
        have e4 : i - 8 * k = i % 8 := by omega
        simp [h1, h2, e1, e3, e4]
      · have e1 : 8 * k ≤ i := by omega
        have e5 : (b.getD k 0).toNat.testBit (i - 8 * k) = false := by
          apply Nat.testBit_lt_two_pow
          exact Nat.lt_of_lt_of_le hx (Nat.pow_le_pow_right (by decide) (by omega))
        rw [List.getD_eq_getElem?_getD] at e5
        simp [h1, h2, e1, e5]
theorem bts_nb (b : List Int) (h32 : b.length = 32) (hb : ∀ x ∈ b, 0 ≤ x ∧ x < 256) : bts (nb b) = b := by
  apply List.ext_getElem
  · simp [h32]
  · intro i h1 h2
    rw [bts_at _ _ (by omega)]
    have hx := hb _ (List.getElem_mem h2)
    have : nb b >>> (8 * i) % 256 = (b[i]).toNat := by
      apply Nat.eq_of_testBit_eq
      intro t
      rw [show 256 = 2 ^ 8 by decide, Nat.testBit_mod_two_pow, Nat.testBit_shiftRight, nb, nbk_bit b hb]
      by_cases ht : t < 8
      · have e1 : (8 * i + t) / 8 = i := by omega
        have e2 : (8 * i + t) % 8 = t := by omega
        have e3 : 8 * i + t < 8 * 32 := by omega
        rw [e1, e2, List.getD_eq_getElem?_getD, List.getElem?_eq_getElem h2]
        simp [ht, e3]
      · have e5 : (b[i]).toNat.testBit t = false := by
          apply Nat.testBit_lt_two_pow
          exact Nat.lt_of_lt_of_le (show (b[i]).toNat < 2 ^ 8 by omega) (Nat.pow_le_pow_right (by decide) (by omega))
        simp [ht, e5]
    rw [this]
    omega
theorem nb_lt (b : List Int) (hb : ∀ x ∈ b, 0 ≤ x ∧ x < 256) : nb b < 2 ^ 256 := by
  apply Nat.lt_pow_two_of_testBit
  intro i hi
  rw [nb, nbk_bit b hb]
  have : ¬ (i < 8 * 32) := by omega
  simp [this]
theorem bts_bd (n : Nat) : ∀ x ∈ bts n, 0 ≤ x ∧ x < 256 := by
  intro x hx
  simp only [bts, List.mem_map] at hx
  obtain ⟨i, _, rfl⟩ := hx
  omega
theorem nb_bts (n : Nat) (hn : n < 2 ^ 256) : nb (bts n) = n := by
  apply Nat.eq_of_testBit_eq
  intro i
  rw [nb, nbk_bit _ (bts_bd n)]
  by_cases hi : i < 8 * 32
  · have h8 : i / 8 < 32 := by omega
    have e0 : (bts n).getD (i / 8) 0 = ((n >>> (8 * (i / 8)) % 256 : Nat) : Int) := by
      rw [List.getD_eq_getElem?_getD, List.getElem?_eq_getElem (by simpa using h8), Option.getD_some, bts_at _ _ h8]
    have e1 : 8 * (i / 8) + i % 8 = i := by omega
    have e2 : i % 8 < 8 := by omega
    rw [e0, Int.toNat_natCast, show 256 = 2 ^ 8 by decide, Nat.testBit_mod_two_pow, Nat.testBit_shiftRight, e1]
    simp [hi, e2]
  · have : n.testBit i = false := Nat.testBit_lt_two_pow (Nat.lt_of_lt_of_le hn (Nat.pow_le_pow_right (by decide) (by omega)))
    simp [hi, this]
/-- six limbs -/
def LL (n : Nat) : List Int := (List.range 6).map fun j => ((limb n j : Nat) : Int)
theorem limb_or (m n j : Nat) : limb (m ||| n) j = limb m j ||| limb n j := by
  unfold limb
  rw [Nat.shiftRight_or_distrib, Nat.or_mod_two_pow]
theorem limb_shl (x q r k j : Nat) (hx : x < 256) (hk : 8 * k = 51 * q + r) (hr : r < 51) :
    limb (x <<< (8 * k)) j = if j = q then (x <<< r) % 2 ^ 51 else if j = q + 1 then x >>> (51 - r) else 0 := by
  have hx0 : ∀ t, 8 ≤ t → x.testBit t = false := fun t ht => Nat.testBit_lt_two_pow (Nat.lt_of_lt_of_le hx (Nat.pow_le_pow_right (by decide) ht : 2 ^ 8 ≤ 2 ^ t))
  apply Nat.eq_of_testBit_eq
  intro i
  rw [limb, Nat.testBit_mod_two_pow, Nat.testBit_shiftRight, Nat.testBit_shiftLeft]
  by_cases h1 : j = q
  · subst h1
    rw [if_pos rfl, Nat.testBit_mod_two_pow, Nat.testBit_shiftLeft, hk]
    by_cases h : r ≤ i
    · have e1 : 51 * j + r ≤ 51 * j + i := by omega
      have e2 : 51 * j + i - (51 * j + r) = i - r := by omega
      simp [h, e2]
    · have e1 : ¬ (51 * j + r ≤ 51 * j + i) := by omega
      simp [h]
  · rw [if_neg h1]
    by_cases h2 : j = q + 1
    · subst h2
      rw [if_pos rfl, Nat.testBit_shiftRight, hk]
      have e1 : 51 * q + r ≤ 51 * (q + 1) + i := by omega
      have e2 : 51 * (q + 1) + i - (51 * q + r) = 51 - r + i := by omega
      rw [e2]
      by_cases hi : i < 51
      · simp [hi, e1]
      · rw [hx0 (51 - r + i) (by omega)]; simp [hi]
    · rw [if_neg h2, hk]
      by_cases h3 : j < q
      · by_cases hi : i < 51
        · have e1 : ¬ (51 * q + r ≤ 51 * j + i) := by omega
          simp [e1]
        · simp [hi]
      · have e2 : 8 ≤ 51 * j + i - (51 * q + r) := by omega
        rw [hx0 _ e2]; simp
theorem dec_step (m x q r k : Nat) (hx : x < 256) (hk : 8 * k = 51 * q + r) (hr : r < 51) (hq : q < 5) :
    ((LL m).set q (bits .or .u64 ((LL m).getD q 0) (bits .and .u64 (IntKind.u64.wrap ((x : Int) * 2 ^ r)) 2251799813685247))).set (q + 1) (bits .or .u64 ((LL m).getD (q + 1) 0) ((x : Int) / 2 ^ (51 - r))) = LL (m ||| x <<< (8 * k)) := by
  have hg : ∀ j, j < 6 → (LL m).getD j 0 = ((limb m j : Nat) : Int) := fun j hj => by
    rw [List.getD_eq_getElem?_getD, List.getElem?_eq_getElem (by simpa [LL] using hj)]; simp [LL]
  have p1 : x * 2 ^ r < 18446744073709551616 := by
    have h1 : 2 ^ r ≤ 2 ^ 50 := Nat.pow_le_pow_right (by decide) (by omega)
    have h2 : x * 2 ^ r ≤ 255 * 2 ^ 50 := Nat.mul_le_mul (by omega) h1
    omega
  have e1 : bits .and .u64 (IntKind.u64.wrap ((x : Int) * 2 ^ r)) 2251799813685247 = (((x <<< r) % 2 ^ 51 : Nat) : Int) := by
    have h0 : IntKind.u64.wrap ((x : Int) * 2 ^ r) = ((x * 2 ^ r : Nat) : Int) := by
      rw [IntKind.wrap_u64]
      have : ((x : Int) * 2 ^ r) = ((x * 2 ^ r : Nat) : Int) := by simp
      rw [this]
      omega
    rw [h0, show (2251799813685247 : Int) = ((2251799813685247 : Nat) : Int) from rfl, u64_and_nat _ _ p1 (by decide), show (2251799813685247 : Nat) = 2 ^ 51 - 1 by decide, Nat.and_two_pow_sub_one_eq_mod, Nat.shiftLeft_eq]
  have e2 : (x : Int) / 2 ^ (51 - r) = ((x >>> (51 - r) : Nat) : Int) := by rw [Nat.shiftRight_eq_div_pow]; simp
  have l1 := limb_lt m q
  have l2 := limb_lt m (q + 1)
  rw [e1, e2, hg q (by omega), hg (q + 1) (by omega), u64_or_nat _ _ (by omega) (by omega), u64_or_nat _ _ (by omega) (by have := Nat.shiftRight_le x (51 - r); omega)]
  apply List.ext_getElem
  · simp [LL]
  · intro j h1 h2
    have hj : j < 6 := by simpa [LL] using h2
    have hL := limb_or m (x <<< (8 * k)) j
    rw [limb_shl x q r k j hx hk hr] at hL
    simp only [LL, List.getElem_set, List.getElem_map, List.getElem_range]
    rw [hL]
    by_cases a1 : j = q
    · subst a1
      rw [if_neg (by omega), if_pos rfl, if_pos rfl]
    · by_cases a2 : j = q + 1
      · subst a2
        rw [if_pos rfl, if_neg (by omega), if_pos rfl]
      · rw [if_neg (by omega), if_neg (by omega), if_neg a1, if_neg a2]; simp
theorem LL_V (m : Nat) : V ((LL m).take 5) = ((m % 2 ^ 255 : Nat) : Int) ∧ (∀ x ∈ (LL m).take 5, 0 ≤ x ∧ x < 2251799813685248) ∧ ((LL m).take 5).length = 5 := by
  have e : (LL m).take 5 = [((limb m 0 : Nat) : Int), ((limb m 1 : Nat) : Int), ((limb m 2 : Nat) : Int), ((limb m 3 : Nat) : Int), ((limb m 4 : Nat) : Int)] := rfl
  rw [e]
  refine ⟨?_, ?_, rfl⟩
  · simp only [V_cons, V_nil, limb, Nat.shiftRight_eq_div_pow, Nat.reduceMul, Nat.reducePow]
    omega
  · simp only [List.mem_cons, List.not_mem_nil, or_false, forall_eq_or_imp, forall_eq]
    have := limb_lt m 0
    have := limb_lt m 1
    have := limb_lt m 2
    have := limb_lt m 3
    have := limb_lt m 4
    omega
theorem LL_len (m : Nat) : (LL m).length = 6 := by simp [LL]
theorem LL_zero : LL 0 = List.replicate 6 0 := by decide
end Go.Fld
namespace Go.Proofs.Ytacofgmnmofkpaa
set_option linter.unusedSimpArgs false
open Go.ChangeShapes Go.WideShapes Go.ChangeAt Go.RowKit Go.Pin Go.Fld
theorem info40 : (Try.prog.info? 57).map (·.size) = some 32 := by kernel_rfl
theorem size24 : ∀ w, (sizeOf 44).run Try.prog w = .ok 1 w := fun _ => by kernel_rfl
theorem size5 : ∀ w, (sizeOf 5).run Try.prog w = .ok 1 w := fun _ => by kernel_rfl
abbrev rowB (w : World) (g : Nat) (l : List Int) (T : TypeId) : Prop := w.heap[g]? = some (.cells (VI .u8 l) T (0, 0))
theorem rowB_cell {w : World} {g : Nat} {l : List Int} {T : TypeId} (h : rowB w g l T) {i : Nat} (hi : i < l.length) : w.cell? ⟨g, i, none⟩ = some (.int .u8 (l.getD i 0)) := by
  rw [cell_of_row w _ _ _ _ _ h, VI_at _ _ _ hi]
theorem rowB_set {w : World} {g : Nat} {l : List Int} {T : TypeId} (h : rowB w g l T) (i : Nat) (v : Int) : rowB (w.setCell ⟨g, i, none⟩ (.int .u8 v)) g (l.set i v) T := by
  unfold rowB
  rw [heap_setCell_same w _ _ _ _ _ h, VI_set]
/-- Encode's boxes -/
structure EW (n : Nat) (w : World) (L : List Int) (wr : World) : Prop where
  old : Below n w wr
  sz : n + 3 ≤ wr.heap.size
  hr : rowB wr (n + 1) (List.replicate 32 0) 57
  hl : rowAt wr (n + 2) L 98
theorem EW.set {n : Nat} {w wr : World} {L : List Int} (h : EW n w L wr) (i : Nat) (v : Int) : EW n w (L.set i v) (wr.setCell ⟨n + 2, i, none⟩ (.int .u64 v)) :=
  ⟨h.old.setCell (by simp) _, by simpa using h.sz, row_other h.hr (by simp) _, row_set h.hl _ _⟩
theorem EW.below {n : Nat} {w wr w' : World} {L : List Int} (h : EW n w L wr) (hb : Below (n + 3) wr w') : EW n w L w' :=
  ⟨h.old.trans (hb.mono (by omega)), Nat.le_trans h.sz hb.size, (hb.block _ (by omega)).trans h.hr, (hb.block _ (by omega)).trans h.hl⟩
theorem ew_start (w : World) (a : List Int) : EW w.heap.size w (List.replicate 6 0) (((w.alloc (.cells (VI .u64 a) 47)).alloc (.cells (VI .u8 (List.replicate 32 0)) 57)).alloc (.cells (VI .u64 (List.replicate 6 0)) 98)) ∧
    rowAt (((w.alloc (.cells (VI .u64 a) 47)).alloc (.cells (VI .u8 (List.replicate 32 0)) 57)).alloc (.cells (VI .u64 (List.replicate 6 0)) 98)) w.heap.size a 47 := by
  refine ⟨⟨(((Below.refl _ _).alloc (Nat.le_refl _) _).alloc (by simp) _).alloc (by simp; omega) _, by simp [size_alloc], ?_, ?_⟩, ?_⟩
  all_goals simp only [rowAt, rowB, heap_alloc_any, size_alloc]
  · rw [if_neg (by omega), if_pos trivial]
  · rw [if_pos trivial]
  · rw [if_neg (by omega), if_neg (by omega), if_pos trivial]
set_option maxRecDepth 100000 in
set_option maxHeartbeats 4000000 in
theorem encode_any (a : List Int) (ha : Lim a) (w : World) :
    Calls Try.prog 22 #[.agg (VI .u64 a)] w fun e w' => e = .returned (.agg (VI .u8 (bts (V a % 57896044618658097711785492504343953926634992332820282019728792003956564819949).toNat))) ∧ Below w.heap.size w w' := by
  obtain ⟨s0, s1, s2, s3, s4, c, hs, p0, q0, p1, q1, p2, q2, p3, q3, p4, q4, hc, c0, c1, hl, hv, hlb, hll⟩ := lst_facts ha
  clear hs p0 q0 p1 q1 p2 q2 p3 q3 p4 q4 hc c0 c1 hl
  have hx := fun (i : Nat) (h : i < 5) (w : World) => run_index_row (P := Try.prog) w 45 44 .u64 .i64 5 (lst a) i hll h Try.underlying45 Try.underlying44 size24
  obtain ⟨hew, hra⟩ := ew_start w a
  have HA : Hid (Lim a) := ha
  obtain ⟨a0, a1, a2, a3, a4, hae⟩ := five ha.len
  rw [hae] at hra
  obtain ⟨W, hW⟩ : ∃ W, ((w.alloc (.cells (VI .u64 a) 47)).alloc (.cells (VI .u8 (List.replicate 32 0)) 57)).alloc (.cells (VI .u64 (List.replicate 6 0)) 98) = W := ⟨_, rfl⟩
  rw [← hae] at hra
  rw [hW] at hew hra
  rw [hae] at hra
  obtain ⟨hc0, hc1, hc2, hc3, hc4⟩ := cells5 hra
  have HE : Hid (EW w.heap.size w (List.replicate 6 0) W) := hew
  have HLA : Hid (∀ w, Calls Try.prog 47 #[.agg #[.int .u64 a0, .int .u64 a1, .int .u64 a2, .int .u64 a3, .int .u64 a4]] w fun e w' => e = .returned (.agg (VI .u64 (lst a))) ∧ Below w.heap.size w w') := fun w => by
    have := least_any a ha w
    rw [show (VI .u64 a) = #[.int .u64 a0, .int .u64 a1, .int .u64 a2, .int .u64 a3, .int .u64 a4] by rw [hae]; rfl] at this
    exact this
  have hW' : ((w.alloc (.cells (VI .u64 a) 47)).alloc (.cells #[.int .u8 0, .int .u8 0, .int .u8 0, .int .u8 0, .int .u8 0, .int .u8 0, .int .u8 0, .int .u8 0, .int .u8 0, .int .u8 0, .int .u8 0, .int .u8 0, .int .u8 0, .int .u8 0, .int .u8 0, .int .u8 0, .int .u8 0, .int .u8 0, .int .u8 0, .int .u8 0, .int .u8 0, .int .u8 0, .int .u8 0, .int .u8 0, .int .u8 0, .int .u8 0, .int .u8 0, .int .u8 0, .int .u8 0, .int .u8 0, .int .u8 0, .int .u8 0] 57)).alloc (.cells #[.int .u64 0, .int .u64 0, .int .u64 0, .int .u64 0, .int .u64 0, .int .u64 0] 98) = W := hW
  clear hew hra hW ha hae
  have HV : Hid (V (lst a) = V a % 57896044618658097711785492504343953926634992332820282019728792003956564819949) := hv
  have HLB : Hid (∀ x ∈ lst a, 0 ≤ x ∧ x < 2251799813685248) := hlb
  clear hv hlb
  go_enter Try.func22, Try.ntmps22
  go_wp2_with (go_at_call 47; refine (HLA.out _).mono ?_; rintro e w2 ⟨rfl, hb2⟩; have HE2 : Hid (EW w.heap.size w (List.replicate 6 0) w2) := HE.out.below (hb2.mono HE.out.sz); clear hb2)
  clear hc0 hc1 hc2 hc3 hc4 HE HLA hW'
  have h6 : (lst a ++ [0]).length = 6 := by simp [hll]
  go_loopw [10] (fun i w' => ∃ k : Nat, k ≤ 5 ∧ i = .int .i64 k ∧ EW w.heap.size w ((lst a ++ [0]).take k ++ (List.replicate 6 (0 : Int)).drop k) w') (fun i _ => 5 - (intOf i).toNat)
  case atStart => exact ⟨0, Nat.zero_le _, rfl, HE2.out⟩
  case round =>
    clear HE2
    obtain ⟨k, hk, rfl, hp⟩ := hrel
    by_cases hlt : k < 5
    · have hxk := hx k hlt
      have hst := hp.set k ((lst a)[k]'(by omega))
      rw [show (lst a)[k]'(by omega) = (lst a ++ [0])[k]'(by omega) from (List.getElem_append_left (by omega)).symm, set_step _ _ _ (by omega) (by simp; omega), List.getElem_append_left (by omega)] at hst
      have hcl := row_cell hp.hl (i := k) (by simp; omega)
      have hfz : wr.frozen? ⟨w.heap.size + 2, k, none⟩ = false := frozen_of_row wr _ _ _ _ hp.hl
      rw [List.getD_eq_getElem?_getD, List.getElem?_eq_getElem (show k < (lst a).length by omega), Option.getD_some] at hxk
      generalize (lst a)[k]'(by omega) = y at *
      have HST : Hid (EW w.heap.size w ((lst a ++ [0]).take (k + 1) ++ (List.replicate 6 (0 : Int)).drop (k + 1)) (wr.setCell ⟨w.heap.size + 2, k, none⟩ (.int .u64 y))) := hst
      clear hp hst hx
      go_wp2
      go_roundw
      case rel => exact ⟨k + 1, by omega, by go_num, HST.out⟩
      case measure => simp [intOf]; omega
    · have hk' : k = 5 := by omega
      subst hk'
      have e5 : (lst a ++ [0]).take 5 ++ (List.replicate 6 (0 : Int)).drop 5 = lst a ++ [0] := by
        rw [show 5 = (lst a).length from hll.symm, List.take_left, hll]; rfl
      rw [e5] at hp
      have hsz : wr.heap.size = wr.heap.size := rfl
      have HP : Hid (EW w.heap.size w (lst a ++ [0]) wr) := hp
      obtain ⟨Bk, hBk⟩ : ∃ Bk, wr.heap.size = Bk := ⟨_, rfl⟩
      have hB3 : w.heap.size + 3 ≤ Bk := by rw [← hBk]; exact hp.sz
      clear hp hx hlt hk hsz
      rw [show ((5 : Nat) : Int) = 5 from rfl]
      have hp2 : EW w.heap.size w (lst a ++ [0]) (wr.alloc (.cells (VI .u8 (List.replicate 32 0)) 57)) ∧ rowB (wr.alloc (.cells (VI .u8 (List.replicate 32 0)) 57)) Bk (List.replicate 32 0) 57 := by
        refine ⟨HP.out.below ((Below.refl _ _).alloc HP.out.sz _), ?_⟩
        simp only [rowB, heap_alloc_any, hBk, if_true]
      have HP2 : Hid (EW w.heap.size w (lst a ++ [0]) (wr.alloc (.cells (VI .u8 (List.replicate 32 0)) 57)) ∧ rowB (wr.alloc (.cells (VI .u8 (List.replicate 32 0)) 57)) Bk (List.replicate 32 0) 57) := hp2
      clear hp2
      go_wp2
      go_loopw [18] (fun i w' => ∃ k : Nat, k ≤ 32 ∧ i = .int .i64 k ∧ EW w.heap.size w (lst a ++ [0]) w' ∧ rowB w' Bk ((bts (V (lst a)).toNat).take k ++ (List.replicate 32 (0 : Int)).drop k) 57) (fun i _ => 32 - (intOf i).toNat)
      case atStart => exact ⟨0, Nat.zero_le _, rfl, HP2.out⟩
      case round =>
        clear HP2 HP hBk
        obtain ⟨k, hk, rfl, hp, hpB⟩ := hrel
        by_cases hlt : k < 32
        · obtain ⟨q, hq⟩ : ∃ q : Nat, q = 8 * k / 51 := ⟨_, rfl⟩
          obtain ⟨r, hr⟩ : ∃ r : Nat, r = 8 * k % 51 := ⟨_, rfl⟩
          have hq' : (8 * (k : Int)) / 51 = (q : Int) := by omega
          have hr' : (8 * (k : Int)) % 51 = (r : Int) := by omega
          have hq5 : q < 5 := by omega
          have hq5' : (q : Int) < 5 := by omega
          have hr51 : r < 51 := by omega
          have hr51' : (r : Int) < 51 := by omega
          have hcq := row_cell hp.hl (i := q) (by omega)
          have hcq1 := row_cell hp.hl (i := q + 1) (by omega)
          have hcb := rowB_cell hpB (i := k) (by simp; omega)
          have hfz : wr.frozen? ⟨Bk, k, none⟩ = false := frozen_of_row wr _ _ _ _ hpB
          obtain ⟨u, hu⟩ : ∃ u, (lst a ++ [0]).getD q 0 = u := ⟨_, rfl⟩
          obtain ⟨v, hv⟩ : ∃ v, (lst a ++ [0]).getD (q + 1) 0 = v := ⟨_, rfl⟩
          rw [hu] at hcq
          rw [hv] at hcq1
          have HP : Hid (EW w.heap.size w (lst a ++ [0]) wr) := hp
          have HPB : Hid (rowB wr Bk ((bts (V (lst a)).toNat).take k ++ (List.replicate 32 (0 : Int)).drop k) 57) := hpB
          have HQ : Hid (q = 8 * k / 51) := hq
          have HR : Hid (r = 8 * k % 51) := hr
          have HU : Hid ((lst a ++ [0]).getD q 0 = u) := hu
          have HVV : Hid ((lst a ++ [0]).getD (q + 1) 0 = v) := hv
          clear hp hpB hq hr hu hv
          generalize List.getD _ k 0 = cb at hcb
          have HST : Hid (rowB (wr.setCell ⟨Bk, k, none⟩ (.int .u8 (bits .or .u64 (u / 2 ^ r) (IntKind.u64.wrap (v * 2 ^ (51 - r))) % 256))) Bk ((bts (V (lst a)).toNat).take (k + 1) ++ (List.replicate 32 (0 : Int)).drop (k + 1)) 57) := by
            have e := enc_math (V (lst a)).toNat q r k (by rw [HQ.out, HR.out]; omega) hr51
            rw [← (V_limbs hll HLB.out q (by omega)).1, ← (V_limbs hll HLB.out (q + 1) (by omega)).1, HU.out, HVV.out, ← bts_at _ _ hlt] at e
            rw [e]
            have := rowB_set HPB.out k ((bts (V (lst a)).toNat)[k]'(by simpa using hlt))
            rw [set_step _ _ _ (by simpa using hlt) (by simpa using hlt)] at this
            exact this
          have HSE : Hid (∀ v, EW w.heap.size w (lst a ++ [0]) (wr.setCell ⟨Bk, k, none⟩ v)) := fun v => HP.out.below ((Below.refl _ _).setCell hB3 _)
          clear HPB HP
          go_wp2
          go_region
          go_wp2
          go_roundw
          case rel => exact ⟨k + 1, by omega, by go_num, (HSE.out _).below (Below.refl _ _).drew, HST.out⟩
          case measure => simp [intOf]; omega
        · have hk' : k = 32 := by omega
          subst hk'
          rw [List.take_of_length_le (by simp), List.drop_of_length_le (by simp), List.append_nil] at hpB
          have HP : Hid (EW w.heap.size w (lst a ++ [0]) wr) := hp
          have HPB : Hid (rowB wr Bk (bts (V (lst a)).toNat) 57) := hpB
          have HJ : Hid ((Try.prog.info? 57).map (·.size) = some (VI .u8 (bts (V (lst a)).toNat)).size) := by rw [VI_size, bts_len]; exact info40
          clear hp hpB hlt hk
          go_wp2_with (with_reducible refine at_list ?_; first | (refine wpList_load_row rfl 57 (.tmp 6) rfl Bk rfl 57 (VI .u8 (bts (V (lst a)).toNat)) (0, 0) _ HPB.out Try.underlying57 rfl HJ.out ?_) | (refine wpList_store_row rfl 57 (.tmp 2) (.tmp 46) rfl (w.heap.size + 1) (VI .u8 (bts (V (lst a)).toNat)) rfl rfl 57 (VI .u8 (List.replicate 32 0)) HP.out.hr HJ.out (by simp) (VI_one _ _) ?_))
          refine bodyPost_ret (v := .agg (VI .u8 (bts (V (lst a)).toNat))) ?_ rfl ⟨by rw [HV.out], below_setRow HP.out.old _ (by omega) _⟩
          exact results_cell_row (P := Try.prog) (fn := Try.f22) (p := 2) (ty := 57) rfl _ _ (w.heap.size + 1) 57 (VI .u8 (bts (V (lst a)).toNat)) (0, 0) _ rfl (setRow_heap wr _ _ _ 57 _ HP.out.hr) Try.underlying57 rfl HJ.out
end Go.Proofs.Ytacofgmnmofkpaa
namespace Go.Proofs.Ytacofgmnmofkpaa
set_option linter.unusedSimpArgs false
open Go.ChangeShapes Go.WideShapes Go.ChangeAt Go.RowKit Go.Pin Go.Fld
/-- 32 bytes -/
structure Key32 (b : List Int) : Prop where
  len : b.length = 32
  bd : ∀ x ∈ b, 0 ≤ x ∧ x < 256
theorem Key32.info {b : List Int} (h : Key32 b) : (Try.prog.info? 57).map (·.size) = some (VI .u8 b).size := by rw [VI_size, h.len]; exact info40
/-- Decode's boxes -/
structure DW (n : Nat) (w : World) (L : List Int) (wr : World) : Prop where
  old : Below n w wr
  sz : n + 3 ≤ wr.heap.size
  hr : rowAt wr (n + 1) (List.replicate 5 0) 47
  hl : rowAt wr (n + 2) L 98
theorem DW.set {n : Nat} {w wr : World} {L : List Int} (h : DW n w L wr) (i : Nat) (v : Int) : DW n w (L.set i v) (wr.setCell ⟨n + 2, i, none⟩ (.int .u64 v)) :=
  ⟨h.old.setCell (by simp) _, by simpa using h.sz, row_other h.hr (by simp) _, row_set h.hl _ _⟩
theorem DW.below {n : Nat} {w wr w' : World} {L : List Int} (h : DW n w L wr) (hb : Below (n + 3) wr w') : DW n w L w' :=
  ⟨h.old.trans (hb.mono (by omega)), Nat.le_trans h.sz hb.size, (hb.block _ (by omega)).trans h.hr, (hb.block _ (by omega)).trans h.hl⟩
theorem DW.drew {n : Nat} {w wr : World} {L : List Int} (h : DW n w L wr) : DW n w L wr.drew := ⟨h.old.drew, h.sz, h.hr, h.hl⟩
theorem dw_start (w : World) (b : List Int) : DW w.heap.size w (List.replicate 6 0) (((w.alloc (.cells (VI .u8 b) 57)).alloc (.cells (VI .u64 (List.replicate 5 0)) 47)).alloc (.cells (VI .u64 (List.replicate 6 0)) 98)) ∧
    rowB (((w.alloc (.cells (VI .u8 b) 57)).alloc (.cells (VI .u64 (List.replicate 5 0)) 47)).alloc (.cells (VI .u64 (List.replicate 6 0)) 98)) w.heap.size b 57 := by
  refine ⟨⟨(((Below.refl _ _).alloc (Nat.le_refl _) _).alloc (by simp) _).alloc (by simp; omega) _, by simp [size_alloc], ?_, ?_⟩, ?_⟩
  all_goals simp only [rowAt, rowB, heap_alloc_any, size_alloc]
  · rw [if_neg (by omega), if_pos trivial]
  · rw [if_pos trivial]
  · rw [if_neg (by omega), if_neg (by omega), if_pos trivial]
/-- what Decode makes of bytes -/
def dec (b : List Int) : List Int := (LL (nb b)).take 5
theorem dec_lim (b : List Int) : Lim (dec b) := ⟨(LL_V _).2.2, fun x hx => by have := (LL_V (nb b)).2.1 x hx; omega⟩
theorem dec_V (b : List Int) : V (dec b) = ((nb b % 2 ^ 255 : Nat) : Int) := (LL_V _).1
set_option maxRecDepth 100000 in
set_option maxHeartbeats 4000000 in
theorem decode_any (b : List Int) (hb : Key32 b) (w : World) :
    Calls Try.prog 21 #[.agg (VI .u8 b)] w fun e w' => e = .returned (.agg (VI .u64 (dec b))) ∧ Below w.heap.size w w' := by
  have hx := fun (i : Nat) (h : i < 32) (w : World) => run_index_row (P := Try.prog) w 57 5 .u8 .i64 32 b i hb.len h Try.underlying57 Try.underlying5 size5
  obtain ⟨hdw, hrb⟩ := dw_start w b
  obtain ⟨W, hW⟩ : ∃ W, ((w.alloc (.cells (VI .u8 b) 57)).alloc (.cells (VI .u64 (List.replicate 5 0)) 47)).alloc (.cells (VI .u64 (List.replicate 6 0)) 98) = W := ⟨_, rfl⟩
  have hW' : ((w.alloc (.cells (VI .u8 b) 57)).alloc (.cells #[.int .u64 0, .int .u64 0, .int .u64 0, .int .u64 0, .int .u64 0] 47)).alloc (.cells #[.int .u64 0, .int .u64 0, .int .u64 0, .int .u64 0, .int .u64 0, .int .u64 0] 98) = W := hW
  rw [hW] at hdw hrb
  have HD : Hid (DW w.heap.size w (LL (nbk b 0)) W) := by rw [show LL (nbk b 0) = List.replicate 6 0 from LL_zero]; exact hdw
  have HRB : Hid (rowB W w.heap.size b 57) := hrb
  have HB : Hid (Key32 b) := hb
  have HI : Hid ((Try.prog.info? 57).map (·.size) = some (VI .u8 b).size) := hb.info
  clear hdw hrb hW hb
  go_enter Try.func21, Try.ntmps21
  go_wp2_with (first | go_in | (with_reducible refine at_list ?_; refine wpList_load_row rfl 57 (.tmp 1) rfl w.heap.size rfl 57 (VI .u8 b) (0, 0) _ HRB.out Try.underlying57 rfl HI.out ?_))
  go_loopw [9] (fun i w' => ∃ k : Nat, k ≤ 32 ∧ i = .int .i64 k ∧ DW w.heap.size w (LL (nbk b k)) w') (fun i _ => 32 - (intOf i).toNat)
  case atStart => exact ⟨0, Nat.zero_le _, rfl, HD.out⟩
  case round =>
    clear HD HRB hW'
    obtain ⟨k, hk, rfl, hp⟩ := hrel
    by_cases hlt : k < 32
    · have hxk := hx k hlt
      have hkb : k < b.length := by rw [HB.out.len]; exact hlt
      obtain ⟨x0, x1⟩ := HB.out.bd _ (List.getElem_mem hkb)
      obtain ⟨x, hxe⟩ := Int.eq_ofNat_of_zero_le x0
      have hxd : b.getD k 0 = (x : Int) := by rw [List.getD_eq_getElem?_getD, List.getElem?_eq_getElem hkb]; exact hxe
      rw [hxe] at x1
      rw [hxd] at hxk
      have hx256 : x < 256 := by omega
      obtain ⟨q, hq⟩ : ∃ q : Nat, q = 8 * k / 51 := ⟨_, rfl⟩
      obtain ⟨r, hr⟩ : ∃ r : Nat, r = 8 * k % 51 := ⟨_, rfl⟩
      have hq' : (8 * (k : Int)) / 51 = (q : Int) := by omega
      have hr' : (8 * (k : Int)) % 51 = (r : Int) := by omega
      have hq5 : q < 5 := by omega
      have hq5' : (q : Int) < 5 := by omega
      have hr51 : r < 51 := by omega
      have hr51' : (r : Int) < 51 := by omega
      have hcq := row_cell hp.hl (i := q) (by rw [LL_len]; omega)
      have hcq1 := row_cell hp.hl (i := q + 1) (by rw [LL_len]; omega)
      have hfz : wr.frozen? ⟨w.heap.size + 2, q, none⟩ = false := frozen_of_row wr _ _ _ _ hp.hl
      have hfz1 : wr.frozen? ⟨w.heap.size + 2, q + 1, none⟩ = false := frozen_of_row wr _ _ _ _ hp.hl
      have hst := dec_step (nbk b k) x q r k hx256 (by omega) hr51 hq5
      have e : LL (nbk b (k + 1)) = LL (nbk b k ||| x <<< (8 * k)) := by rw [nbk, hxd]; rfl
      have HST : Hid (∀ W1, DW w.heap.size w (LL (nbk b k)) W1 → DW w.heap.size w (LL (nbk b (k + 1))) ((W1.setCell ⟨w.heap.size + 2, q, none⟩ (.int .u64 (bits .or .u64 ((LL (nbk b k)).getD q 0) (bits .and .u64 (IntKind.u64.wrap ((x : Int) * 2 ^ r)) 2251799813685247)))).drew.setCell ⟨w.heap.size + 2, q + 1, none⟩ (.int .u64 (bits .or .u64 ((LL (nbk b k)).getD (q + 1) 0) ((x : Int) / 2 ^ (51 - r)))))) := fun W1 h1 => by
        rw [e, ← hst]
        exact ((h1.set _ _).drew).set _ _
      have HP : Hid (DW w.heap.size w (LL (nbk b k)) wr) := hp
      clear hp hst e hx hxe hxd hq hr x0
      generalize (LL (nbk b k)).getD q 0 = u at *
      generalize (LL (nbk b k)).getD (q + 1) 0 = v at *
      go_wp2
      go_region
      go_wp2
      go_region
      go_wp2
      go_roundw
      case rel => exact ⟨k + 1, by omega, by go_num, (HST.out _ HP.out).drew⟩
      case measure => simp [intOf]; omega
    · have hk' : k = 32 := by omega
      subst hk'
      have HP : Hid (DW w.heap.size w (LL (nb b)) wr) := hp
      obtain ⟨Ck, hCk⟩ : ∃ Ck, wr.heap.size = Ck := ⟨_, rfl⟩
      have hC3 : w.heap.size + 3 ≤ Ck := by rw [← hCk]; exact hp.sz
      have hp2 : DW w.heap.size w (LL (nb b)) (wr.alloc (.cells (VI .u64 (List.replicate 5 0)) 47)) ∧ rowAt (wr.alloc (.cells (VI .u64 (List.replicate 5 0)) 47)) Ck (List.replicate 5 0) 47 := by
        refine ⟨HP.out.below ((Below.refl _ _).alloc HP.out.sz _), ?_⟩
        simp only [rowAt, heap_alloc_any, hCk, if_true]
      have HP2 : Hid (DW w.heap.size w (LL (nb b)) (wr.alloc (.cells (VI .u64 (List.replicate 5 0)) 47)) ∧ rowAt (wr.alloc (.cells (VI .u64 (List.replicate 5 0)) 47)) Ck (List.replicate 5 0) 47) := hp2
      clear hp hp2 hx hlt hk HP
      rw [show ((32 : Nat) : Int) = 32 from rfl]
      go_wp2
      go_loopw [43] (fun i w' => ∃ k : Nat, k ≤ 5 ∧ i = .int .i64 k ∧ DW w.heap.size w (LL (nb b)) w' ∧ rowAt w' Ck ((dec b).take k ++ (List.replicate 5 (0 : Int)).drop k) 47) (fun i _ => 5 - (intOf i).toNat)
      case atStart => exact ⟨0, Nat.zero_le _, rfl, HP2.out⟩
      case round =>
        clear HP2 hCk
        obtain ⟨k, hk, rfl, hp, hpC⟩ := hrel
        by_cases hlt : k < 5
        · have hk5 : k < (dec b).length := by rw [(dec_lim b).len]; exact hlt
          have hcl := row_cell hp.hl (i := k) (by rw [LL_len]; omega)
          rw [show (LL (nb b)).getD k 0 = (dec b)[k] by
            rw [List.getD_eq_getElem?_getD, List.getElem?_eq_getElem (by rw [LL_len]; omega)]; simp [dec]] at hcl
          have hcc := row_cell hpC (i := k) (by simp [(dec_lim b).len]; omega)
          have hfz : wr.frozen? ⟨Ck, k, none⟩ = false := frozen_of_row wr _ _ _ _ hpC
          have hst := row_set hpC k (dec b)[k]
          rw [set_step _ _ _ hk5 (by simpa using hlt)] at hst
          have HST : Hid (rowAt (wr.setCell ⟨Ck, k, none⟩ (.int .u64 (dec b)[k])) Ck ((dec b).take (k + 1) ++ (List.replicate 5 (0 : Int)).drop (k + 1)) 47) := hst
          have HSE : Hid (∀ v, DW w.heap.size w (LL (nb b)) (wr.setCell ⟨Ck, k, none⟩ v)) := fun v => hp.below ((Below.refl _ _).setCell hC3 _)
          clear hp hpC hst
          generalize (dec b)[k] = y at *
          generalize List.getD _ k 0 = z at hcc
          go_wp2
          go_roundw
          case rel => exact ⟨k + 1, by omega, by go_num, HSE.out _, HST.out⟩
          case measure => simp [intOf]; omega
        · have hk' : k = 5 := by omega
          subst hk'
          rw [List.take_of_length_le (by rw [(dec_lim b).len]; omega), List.drop_of_length_le (by simp), List.append_nil] at hpC
          obtain ⟨x0, x1, x2, x3, x4, hxe, hx0, hx1, hx2, hx3, hx4, _, _, _, _, _⟩ := row5 hpC (dec_lim b).len
          obtain ⟨_, _, _, _, _, _, hy0, hy1, hy2, hy3, hy4, hz0, hz1, hz2, hz3, hz4⟩ := row5 hp.hr (by simp)
          have HP : Hid (DW w.heap.size w (LL (nb b)) wr) := hp
          clear hp hpC hlt hk
          go_wp2
          refine bodyPost_ret (v := .agg (VI .u64 [x0, x1, x2, x3, x4])) ?_ rfl ⟨by rw [hxe.out], ((((HP.out.old.setCell (by simp) _).setCell (by simp) _).setCell (by simp) _).setCell (by simp) _).setCell (by simp) _⟩
          exact results_cell_row (P := Try.prog) (fn := Try.f21) (p := 2) (ty := 47) rfl _ _ (w.heap.size + 1) 47 (VI .u64 [x0, x1, x2, x3, x4]) (0, 0) _ rfl (store5 HP.out.hr x0 x1 x2 x3 x4) Try.underlying47 rfl infoE
end Go.Proofs.Ytacofgmnmofkpaa
namespace Go.Proofs.Ytacofgmnmofkpaa
set_option linter.unusedSimpArgs false
open Go.ChangeShapes Go.WideShapes Go.ChangeAt Go.RowKit Go.Pin Go.Fld
/-- all but the cells S is as it lay -/
structure CW (S : Nat → Nat → Prop) (w w' : World) : Prop where
  os : w'.os = w.os
  tape : w'.tape = w.tape
  output : w'.output = w.output
  size : w'.heap.size = w.heap.size
  obj : ∀ k cs T fr, w.heap[k]? = some (.cells cs T fr) → ∃ cs', cs'.size = cs.size ∧ w'.heap[k]? = some (.cells cs' T fr) ∧ ∀ j, ¬ S k j → cs'[j]? = cs[j]?
  other : ∀ k, (∀ j, ¬ S k j) → w'.heap[k]? = w.heap[k]?
theorem CW.refl (S : Nat → Nat → Prop) (w : World) : CW S w w := ⟨rfl, rfl, rfl, rfl, fun _ cs _ _ h => ⟨cs, rfl, h, fun _ _ => rfl⟩, fun _ _ => rfl⟩
theorem CW.drew {S : Nat → Nat → Prop} {a w : World} (h : CW S a w) : CW S a w.drew := ⟨h.os, h.tape, h.output, h.size, h.obj, h.other⟩
theorem CW.setCell {S : Nat → Nat → Prop} {a w : World} (h : CW S a w) {g o : Nat} (hp : S g o) (v : Value) : CW S a (w.setCell ⟨g, o, none⟩ v) := by
  refine ⟨h.os, h.tape, h.output, by simpa using h.size, fun k cs T fr hk => ?_, fun k hk => ?_⟩
  · obtain ⟨cs', h1, h2, h3⟩ := h.obj k cs T fr hk
    by_cases e : k = g
    · subst e
      refine ⟨cs'.setIfInBounds o v, by simpa using h1, ?_, fun j hj => ?_⟩
      · simp [World.setCell, Array.getElem?_modify, h2]
      · rw [Array.getElem?_setIfInBounds_ne (fun e => hj (by rw [← e]; exact hp))]; exact h3 j hj
    · exact ⟨cs', h1, by rw [heap_setCell_other _ _ _ _ e]; exact h2, h3⟩
  · have e : k ≠ g := fun e => hk o (by rw [e]; exact hp)
    rw [heap_setCell_other _ _ _ _ e]; exact h.other k hk
theorem CW.cell {S : Nat → Nat → Prop} {w w' : World} (h : CW S w w') {k j : Nat} {v : Value} (hc : w.cell? ⟨k, j, none⟩ = some v) (hj : ¬ S k j) : w'.cell? ⟨k, j, none⟩ = some v := by
  cases ho : w.heap[k]? with
  | none => simp [World.cell?, ho] at hc
  | some o =>
    cases o with
    | cells cs T fr =>
      obtain ⟨cs', _, h2, h3⟩ := h.obj k cs T fr ho
      rw [cell_of_row _ _ _ _ _ _ ho] at hc
      rw [cell_of_row _ _ _ _ _ _ h2, h3 j hj]; exact hc
    | _ => simp [World.cell?, ho] at hc
theorem CW.row {S : Nat → Nat → Prop} {w w' : World} (h : CW S w w') {g : Nat} {T : TypeId} {a x : List Int} (ha : rowAt w g a T) (hl : x.length = a.length) (hc : ∀ j, j < a.length → w'.cell? ⟨g, j, none⟩ = some (.int .u64 (x.getD j 0))) : rowAt w' g x T := by
  obtain ⟨cs', h1, h2, _⟩ := h.obj g _ T (0, 0) ha
  unfold rowAt
  rw [h2]
  congr 2
  apply Array.ext_getElem?
  intro j
  by_cases hj : j < a.length
  · have := hc j hj
    rw [cell_of_row _ _ _ _ _ _ h2] at this
    rw [this, VI_at _ _ _ (by omega)]
  · rw [Array.getElem?_eq_none (by rw [h1, VI_size]; omega), Array.getElem?_eq_none (by rw [VI_size]; omega)]
theorem CW.frozen {S : Nat → Nat → Prop} {w w' : World} (h : CW S w w') {k j i : Nat} {v : Value} (hc : w.cell? ⟨k, j, none⟩ = some v) : w'.frozen? ⟨k, i, none⟩ = w.frozen? ⟨k, i, none⟩ := by
  cases ho : w.heap[k]? with
  | none => simp [World.cell?, ho] at hc
  | some o =>
    cases o with
    | cells cs T fr =>
      obtain ⟨cs', _, h2, h3⟩ := h.obj k cs T fr ho
      simp [World.frozen?, ho, h2]
    | _ => simp [World.cell?, ho] at hc
def spread64 (s : Int) : Int := IntKind.u64.wrap (-bits BinOp.and IntKind.u64 s 1)
theorem spread_eq (s : Int) (s0 : 0 ≤ s) (s1 : s < 18446744073709551616) : spread64 s = if s % 2 = 1 then ((BitVec.allOnes 64).toNat : Int) else ((0#64).toNat : Int) := by
  obtain ⟨z, rfl⟩ := ofBv64 s0 s1
  have hz : bits .and .u64 (z.toNat : Int) 1 = ((z.toNat % 2 : Nat) : Int) := by
    have := u64_and_nat z.toNat 1 z.isLt (by decide)
    rw [nat_mask1] at this
    exact this
  unfold spread64
  rcases Nat.mod_two_eq_zero_or_one z.toNat with h | h
  · rw [hz, h, if_neg (by omega)]; decide
  · rw [hz, h, if_pos (by omega)]; decide
theorem swx (s a b : Int) (s0 : 0 ≤ s) (s1 : s < 18446744073709551616) (a0 : 0 ≤ a) (a1 : a < 18446744073709551616) (b0 : 0 ≤ b) (b1 : b < 18446744073709551616) :
    bits .xor .u64 a (bits .and .u64 (spread64 s) (bits .xor .u64 a b)) = (if s % 2 = 1 then b else a) ∧ bits .xor .u64 b (bits .and .u64 (spread64 s) (bits .xor .u64 a b)) = (if s % 2 = 1 then a else b) := by
  obtain ⟨x, rfl⟩ := ofBv64 a0 a1
  obtain ⟨y, rfl⟩ := ofBv64 b0 b1
  rw [spread_eq s s0 s1]
  split
  · rw [xor64, and64, xor64, xor64, BitVec.allOnes_and]
    constructor
    · rw [← BitVec.xor_assoc]; simp
    · rw [BitVec.xor_comm x y, ← BitVec.xor_assoc]; simp
  · rw [xor64, and64, xor64, xor64]; simp
/-- the cells that Swap writes -/
def SS (ga oa gb ob g j : Nat) : Prop := (g = ga ∧ oa ≤ j ∧ j < oa + 5) ∨ (g = gb ∧ ob ≤ j ∧ j < ob + 5)
/-- what a round of Swap finds -/
structure SwI (ga oa gb ob : Nat) (w : World) (a b x y : List Int) (k : Nat) (wr : World) : Prop where
  cw : CW (SS ga oa gb ob) w wr
  ca : ∀ j, j < 5 → wr.cell? ⟨ga, oa + j, none⟩ = some (.int .u64 (if j < k then x.getD j 0 else a.getD j 0))
  cb : ∀ j, j < 5 → wr.cell? ⟨gb, ob + j, none⟩ = some (.int .u64 (if j < k then y.getD j 0 else b.getD j 0))
  fa : ∀ j, wr.frozen? ⟨ga, oa + j, none⟩ = false
  fb : ∀ j, wr.frozen? ⟨gb, ob + j, none⟩ = false
theorem SwI.drew {ga oa gb ob : Nat} {w wr : World} {a b x y : List Int} {k : Nat} (h : SwI ga oa gb ob w a b x y k wr) : SwI ga oa gb ob w a b x y k wr.drew := ⟨h.cw.drew, h.ca, h.cb, h.fa, h.fb⟩
theorem cell_set (w : World) (p q : Addr) (v : Value) (hq : (w.cell? q).isSome = true) : (w.setCell p v).cell? q = if q = p then some v else w.cell? q := by
  by_cases h : q = p
  · subst h
    obtain ⟨u, hu⟩ := Option.isSome_iff_exists.1 hq
    rw [if_pos rfl, World.cell?_setCell_same _ _ _ hu]
  · rw [if_neg h, World.cell?_setCell_other _ _ _ _ (fun e => h e.symm)]
theorem SwI.step {ga oa gb ob : Nat} {w wr : World} {a b x y : List Int} {k : Nat} (h : SwI ga oa gb ob w a b x y k wr) (hk : k < 5) (hd : ∀ i j, i < 5 → j < 5 → (⟨ga, oa + i, none⟩ : Addr) ≠ ⟨gb, ob + j, none⟩) :
    SwI ga oa gb ob w a b x y (k + 1) ((wr.setCell ⟨ga, oa + k, none⟩ (.int .u64 (x.getD k 0))).setCell ⟨gb, ob + k, none⟩ (.int .u64 (y.getD k 0))) := by
  refine ⟨(h.cw.setCell (.inl ⟨rfl, by omega, by omega⟩) _).setCell (.inr ⟨rfl, by omega, by omega⟩) _, fun j hj => ?_, fun j hj => ?_, fun j => ?_, fun j => ?_⟩
  · have hc := h.ca j hj
    rw [cell_set _ _ _ _ (by rw [cell_set _ _ _ _ (by rw [hc]; rfl)]; split; rfl; rw [hc]; rfl), if_neg (hd j k hj hk), cell_set _ _ _ _ (by rw [hc]; rfl)]
    by_cases e : j = k
    · subst e; rw [if_pos rfl, if_pos (by omega)]
    · rw [if_neg (by simp <;> omega), hc]
      by_cases e2 : j < k
      · rw [if_pos e2, if_pos (by omega)]
      · rw [if_neg e2, if_neg (by omega)]
  · have hc := h.cb j hj
    rw [cell_set _ _ _ _ (by rw [cell_set _ _ _ _ (by rw [hc]; rfl)]; split; rfl; rw [hc]; rfl)]
    by_cases e : j = k
    · subst e; rw [if_pos rfl, if_pos (by omega)]
    · rw [if_neg (by simp <;> omega), cell_set _ _ _ _ (by rw [hc]; rfl), if_neg (fun e => hd k j hk hj e.symm), hc]
      by_cases e2 : j < k
      · rw [if_pos e2, if_pos (by omega)]
      · rw [if_neg e2, if_neg (by omega)]
  · rw [World.frozen?_setCell, World.frozen?_setCell]; exact h.fa j
  · rw [World.frozen?_setCell, World.frozen?_setCell]; exact h.fb j
theorem SwI.step1 {ga oa : Nat} {w wr : World} {a : List Int} {k : Nat} (h : SwI ga oa ga oa w a a a a k wr) (hk : k < 5) :
    SwI ga oa ga oa w a a a a (k + 1) ((wr.setCell ⟨ga, oa + k, none⟩ (.int .u64 (a.getD k 0))).setCell ⟨ga, oa + k, none⟩ (.int .u64 (a.getD k 0))) := by
  have key : ∀ j, j < 5 → ((wr.setCell ⟨ga, oa + k, none⟩ (.int .u64 (a.getD k 0))).setCell ⟨ga, oa + k, none⟩ (.int .u64 (a.getD k 0))).cell? ⟨ga, oa + j, none⟩ = some (.int .u64 (if j < k + 1 then a.getD j 0 else a.getD j 0)) := fun j hj => by
    have hc := h.ca j hj
    rw [ite_self] at hc
    rw [ite_self, cell_set _ _ _ _ (by rw [cell_set _ _ _ _ (by rw [hc]; rfl)]; split; rfl; rw [hc]; rfl), cell_set _ _ _ _ (by rw [hc]; rfl)]
    by_cases e : j = k
    · subst e; rw [if_pos rfl]
    · rw [if_neg (by simp <;> omega), if_neg (by simp <;> omega), hc]
  exact ⟨(h.cw.setCell (.inl ⟨rfl, by omega, by omega⟩) _).setCell (.inl ⟨rfl, by omega, by omega⟩) _, key, key, fun j => by rw [World.frozen?_setCell, World.frozen?_setCell]; exact h.fa j, fun j => by rw [World.frozen?_setCell, World.frozen?_setCell]; exact h.fa j⟩
/-- a pair of lists as the bit says -/
def swp (s : Int) (a b : List Int) : List Int := if s % 2 = 1 then b else a
theorem swp_at (s : Int) (a b : List Int) (k : Nat) : (swp s a b).getD k 0 = if s % 2 = 1 then b.getD k 0 else a.getD k 0 := by unfold swp; split <;> rfl
set_option maxRecDepth 100000 in
set_option maxHeartbeats 1000000 in
theorem mswap_two (s : Int) (s0 : 0 ≤ s) (s1 : s < 18446744073709551616) (ga oa gb ob : Nat) (a b : List Int) (ha : Lim a) (hb : Lim b) (w : World) (h0 : SwI ga oa gb ob w a b (swp s a b) (swp s b a) 0 w) (hd : ∀ i j, i < 5 → j < 5 → (⟨ga, oa + i, none⟩ : Addr) ≠ ⟨gb, ob + j, none⟩) :
    Calls Try.prog 62 #[.int .u64 s, .pointer (some ⟨ga, oa, none⟩), .pointer (some ⟨gb, ob, none⟩)] w fun e w' => e = .returned (.tuple #[]) ∧ SwI ga oa gb ob w a b (swp s a b) (swp s b a) 5 w' := by
  have H0 : Hid (SwI ga oa gb ob w a b (swp s a b) (swp s b a) 0 w) := h0
  have HD : Hid (∀ i j, i < 5 → j < 5 → (⟨ga, oa + i, none⟩ : Addr) ≠ ⟨gb, ob + j, none⟩) := hd
  have HX : Hid (∀ k, k < 5 → bits .xor .u64 (a.getD k 0) (bits .and .u64 (spread64 s) (bits .xor .u64 (a.getD k 0) (b.getD k 0))) = (swp s a b).getD k 0 ∧ bits .xor .u64 (b.getD k 0) (bits .and .u64 (spread64 s) (bits .xor .u64 (a.getD k 0) (b.getD k 0))) = (swp s b a).getD k 0) := fun k hk => by
    obtain ⟨a0, a1⟩ := lim_at ha hk
    obtain ⟨b0, b1⟩ := lim_at hb hk
    rw [swp_at, swp_at]
    exact swx s _ _ s0 s1 a0 (by omega) b0 (by omega)
  clear h0 hd ha hb s0 s1
  go_enter Try.func62, Try.ntmps62
  go_wp2
  rw [show IntKind.u64.wrap (-bits BinOp.and IntKind.u64 s 1) = spread64 s from rfl]
  go_loopw [17] (fun i w' => ∃ k : Nat, k ≤ 5 ∧ i = .int .i64 k ∧ SwI ga oa gb ob w a b (swp s a b) (swp s b a) k w') (fun i _ => 5 - (intOf i).toNat)
  case atStart => exact ⟨0, Nat.zero_le _, rfl, H0.out⟩
  case round =>
    obtain ⟨k, hk, rfl, hp⟩ := hrel
    by_cases hlt : k < 5
    · have hcA := hp.ca k hlt
      have hcB := hp.cb k hlt
      rw [if_neg (by omega)] at hcA hcB
      have hfA := hp.fa k
      have hfB := hp.fb k
      have hne := HD.out k k hlt hlt
      have hne' := fun e => hne (Eq.symm e)
      obtain ⟨e1, e2⟩ := HX.out k hlt
      have HS : Hid (∀ W1, SwI ga oa gb ob w a b (swp s a b) (swp s b a) k W1 → SwI ga oa gb ob w a b (swp s a b) (swp s b a) (k + 1) ((W1.setCell ⟨ga, oa + k, none⟩ (.int .u64 ((swp s a b).getD k 0))).setCell ⟨gb, ob + k, none⟩ (.int .u64 ((swp s b a).getD k 0)))) := fun W1 h => h.step hlt HD.out
      generalize (swp s a b).getD k 0 = x at *
      generalize (swp s b a).getD k 0 = y at *
      generalize a.getD k 0 = ak at *
      generalize b.getD k 0 = bk at *
      have HP : Hid (SwI ga oa gb ob w a b (swp s a b) (swp s b a) k wr) := hp
      clear hp H0 HX HD
      go_wp2
      go_region
      go_wp2
      go_region
      go_wp2
      go_region
      go_wp2
      go_roundw
      case rel => exact ⟨k + 1, by omega, by go_num, (HS.out _ HP.out).drew.drew.drew⟩
      case measure => simp [intOf]; omega
    · have hk' : k = 5 := by omega
      subst hk'
      have HP : Hid (SwI ga oa gb ob w a b (swp s a b) (swp s b a) 5 wr) := hp
      clear hp
      go_wp2
      go_end0
      exact ⟨rfl, HP.out⟩
set_option maxRecDepth 100000 in
set_option maxHeartbeats 1000000 in
theorem mswap_one (s : Int) (s0 : 0 ≤ s) (s1 : s < 18446744073709551616) (ga oa : Nat) (a : List Int) (ha : Lim a) (w : World) (h0 : SwI ga oa ga oa w a a a a 0 w) :
    Calls Try.prog 62 #[.int .u64 s, .pointer (some ⟨ga, oa, none⟩), .pointer (some ⟨ga, oa, none⟩)] w fun e w' => e = .returned (.tuple #[]) ∧ SwI ga oa ga oa w a a a a 5 w' := by
  have H0 : Hid (SwI ga oa ga oa w a a a a 0 w) := h0
  have HX : Hid (∀ k, k < 5 → bits .xor .u64 (a.getD k 0) (bits .and .u64 (spread64 s) (bits .xor .u64 (a.getD k 0) (a.getD k 0))) = a.getD k 0) := fun k hk => by
    obtain ⟨a0, a1⟩ := lim_at ha hk
    have := (swx s (a.getD k 0) (a.getD k 0) s0 s1 a0 (by omega) a0 (by omega)).1
    rw [this, ite_self]
  clear h0 ha s0 s1
  go_enter Try.func62, Try.ntmps62
  go_wp2
  rw [show IntKind.u64.wrap (-bits BinOp.and IntKind.u64 s 1) = spread64 s from rfl]
  go_loopw [17] (fun i w' => ∃ k : Nat, k ≤ 5 ∧ i = .int .i64 k ∧ SwI ga oa ga oa w a a a a k w') (fun i _ => 5 - (intOf i).toNat)
  case atStart => exact ⟨0, Nat.zero_le _, rfl, H0.out⟩
  case round =>
    obtain ⟨k, hk, rfl, hp⟩ := hrel
    by_cases hlt : k < 5
    · have hcA := hp.ca k hlt
      rw [ite_self] at hcA
      have hfA := hp.fa k
      have e1 := HX.out k hlt
      have HS : Hid (∀ W1, SwI ga oa ga oa w a a a a k W1 → SwI ga oa ga oa w a a a a (k + 1) ((W1.setCell ⟨ga, oa + k, none⟩ (.int .u64 (a.getD k 0))).setCell ⟨ga, oa + k, none⟩ (.int .u64 (a.getD k 0)))) := fun W1 h => h.step1 hlt
      generalize a.getD k 0 = ak at *
      have HP : Hid (SwI ga oa ga oa w a a a a k wr) := hp
      clear hp H0 HX
      go_wp2
      go_region
      go_wp2
      go_region
      go_wp2
      go_region
      go_wp2
      go_roundw
      case rel => exact ⟨k + 1, by omega, by go_num, (HS.out _ HP.out).drew.drew.drew⟩
      case measure => simp [intOf]; omega
    · have hk' : k = 5 := by omega
      subst hk'
      have HP : Hid (SwI ga oa ga oa w a a a a 5 wr) := hp
      clear hp
      go_wp2
      go_end0
      exact ⟨rfl, HP.out⟩
end Go.Proofs.Ytacofgmnmofkpaa
