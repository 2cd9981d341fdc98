import Derived.Test.YtacofgmnmofkpaaMfae
namespace Go.Proofs.Ytacofgmnmofkpaa
set_option linter.unusedSimpArgs false
open Go.ChangeShapes Go.WideShapes Go.ChangeAt Go.RowKit Go.Pin Go.Fld
/-- the number of limbs -/
def num (a : List Int) : Nat := (V a % 57896044618658097711785492504343953926634992332820282019728792003956564819949).toNat
theorem num_lt (a : List Int) : num a < P := by
  have := Int.emod_lt_of_pos (V a) (show (0 : Int) < 57896044618658097711785492504343953926634992332820282019728792003956564819949 by decide)
  have h2 := Int.emod_nonneg (V a) (show (57896044618658097711785492504343953926634992332820282019728792003956564819949 : Int) ≠ 0 by decide)
  unfold num P
  omega
theorem num_cast (a : List Int) : (num a : Int) = V a % 57896044618658097711785492504343953926634992332820282019728792003956564819949 := by
  have h2 := Int.emod_nonneg (V a) (show (57896044618658097711785492504343953926634992332820282019728792003956564819949 : Int) ≠ 0 by decide)
  unfold num
  omega
theorem num_of {a : List Int} {n : Nat} (h : V a % 57896044618658097711785492504343953926634992332820282019728792003956564819949 = (n : Int) % 57896044618658097711785492504343953926634992332820282019728792003956564819949) : num a = n % P := by
  have := num_cast a
  rw [h] at this
  have h3 : ((n % P : Nat) : Int) = (n : Int) % 57896044618658097711785492504343953926634992332820282019728792003956564819949 := rfl
  omega
theorem bts_inj {n m : Nat} (hn : n < P) (hm : m < P) (h : bts n = bts m) : n = m := by
  have h1 := nb_bts n (Nat.lt_trans hn (by decide))
  have h2 := nb_bts m (Nat.lt_trans hm (by decide))
  rw [← h1, ← h2, h]
theorem bts_beq (n m : Nat) (hn : n < P) (hm : m < P) : (bts n == bts m) = decide (n = m) := by
  by_cases h : n = m
  · subst h; simp
  · have : ¬ bts n = bts m := fun e => h (bts_inj hn hm e)
    simp [h, this]
theorem enc_any (a : List Int) (ha : Lim a) (w : World) : Calls Try.prog 22 #[.agg (VI .u64 a)] w fun e w' => e = .returned (.agg (VI .u8 (bts (num a)))) ∧ Below w.heap.size w w' := encode_any a ha w
theorem fswap_nil1 (rv : Value) (s : Int) (q : Option Addr) (w : World) :
    Calls Try.prog 46 #[rv, .int .u64 s, .pointer none, .pointer q] w fun e w' => e = .returned (.tuple #[]) ∧ w' = w := by
  go_enter Try.func46, Try.ntmps46
  go_wp2
  exact bodyPost_ret (results_none rfl _ _ _) rfl ⟨rfl, rfl⟩
theorem fswap_nil2 (rv : Value) (s : Int) (q : Option Addr) (w : World) :
    Calls Try.prog 46 #[rv, .int .u64 s, .pointer q, .pointer none] w fun e w' => e = .returned (.tuple #[]) ∧ w' = w := by
  cases q
  all_goals
    go_enter Try.func46, Try.ntmps46
    go_wp2
    exact bodyPost_ret (results_none rfl _ _ _) rfl ⟨rfl, rfl⟩
theorem SwI.base {ga oa gb ob : Nat} {w wr : World} {a b x y : List Int} {k : Nat} (h : SwI ga oa gb ob w.drew a b x y k wr) : SwI ga oa gb ob w a b x y k wr :=
  ⟨⟨h.cw.os, h.cw.tape, h.cw.output, h.cw.size, h.cw.obj, h.cw.other⟩, h.ca, h.cb, h.fa, h.fb⟩
theorem SwI.both {ga oa gb ob : Nat} {w : World} {a b x y : List Int} {k : Nat} (h : SwI ga oa gb ob w a b x y k w) : SwI ga oa gb ob w.drew a b x y k w.drew :=
  ⟨CW.refl _ _, h.ca, h.cb, h.fa, h.fb⟩
/-- Swap, of two Elements or of one with itself -/
theorem mswap_any (s : Int) (s0 : 0 ≤ s) (s1 : s < 18446744073709551616) (ga oa gb ob : Nat) (a b : List Int) (ha : Lim a) (hb : Lim b) (w : World) (h0 : SwI ga oa gb ob w a b (swp s a b) (swp s b a) 0 w)
    (hd : (∀ i j, i < 5 → j < 5 → (⟨ga, oa + i, none⟩ : Addr) ≠ ⟨gb, ob + j, none⟩) ∨ (ga = gb ∧ oa = ob ∧ a = b)) :
    Calls Try.prog 62 #[.int .u64 s, .pointer (some ⟨ga, oa, none⟩), .pointer (some ⟨gb, ob, none⟩)] w fun e w' => e = .returned (.tuple #[]) ∧ SwI ga oa gb ob w a b (swp s a b) (swp s b a) 5 w' := by
  rcases hd with hd | ⟨rfl, rfl, rfl⟩
  · exact mswap_two s s0 s1 ga oa gb ob a b ha hb w h0 hd
  · have e : swp s a a = a := by unfold swp; split <;> rfl
    rw [e] at h0 ⊢
    exact mswap_one s s0 s1 ga oa a ha w h0
set_option maxRecDepth 100000 in
set_option maxHeartbeats 1000000 in
theorem fswap_any (rv : Value) (s : Int) (s0 : 0 ≤ s) (s1 : s < 18446744073709551616) (ga oa gb ob : Nat) (a b : List Int) (ha : Lim a) (hb : Lim b) (w : World) (Q : World → Prop)
    (hc : Calls Try.prog 29 #[rv, .int .i64 7] w fun e W1 => e = .returned (.tuple #[]) ∧ Q W1)
    (h0 : ∀ W1, Q W1 → SwI ga oa gb ob W1 a b (swp s a b) (swp s b a) 0 W1) (hd : (∀ i j, i < 5 → j < 5 → (⟨ga, oa + i, none⟩ : Addr) ≠ ⟨gb, ob + j, none⟩) ∨ (ga = gb ∧ oa = ob ∧ a = b)) :
    Calls Try.prog 46 #[rv, .int .u64 s, .pointer (some ⟨ga, oa, none⟩), .pointer (some ⟨gb, ob, none⟩)] w fun e w' => e = .returned (.tuple #[]) ∧ ∃ W1, Q W1 ∧ SwI ga oa gb ob W1 a b (swp s a b) (swp s b a) 5 w' := by
  have HC : Hid (Calls Try.prog 29 #[rv, .int .i64 7] w fun e W1 => e = .returned (.tuple #[]) ∧ Q W1) := hc
  have HM : Hid (∀ W1, Q W1 → Calls Try.prog 62 #[.int .u64 s, .pointer (some ⟨ga, oa, none⟩), .pointer (some ⟨gb, ob, none⟩)] W1.drew fun e w' => e = .returned (.tuple #[]) ∧ SwI ga oa gb ob W1.drew a b (swp s a b) (swp s b a) 5 w') := fun W1 hq => mswap_any s s0 s1 ga oa gb ob a b ha hb W1.drew (h0 W1 hq).both hd
  clear hc h0 hd ha hb
  go_enter Try.func46, Try.ntmps46
  go_wp2_with (go_at_call 29; refine HC.out.mono ?_; rintro e W1 ⟨rfl, hQ⟩)
  go_region_with (go_at_call 62; refine (HM.out W1 hQ).mono ?_; rintro e w2 ⟨rfl, hS⟩)
  all_goals (
    have HS : Hid (SwI ga oa gb ob W1 a b (swp s a b) (swp s b a) 5 w2) := hS.base
    clear hS
    go_wp2
    go_end0
    exact ⟨rfl, W1, hQ, HS.out⟩)
end Go.Proofs.Ytacofgmnmofkpaa
namespace Go.Proofs.Ytacofgmnmofkpaa
set_option linter.unusedSimpArgs false
open Go.ChangeShapes Go.WideShapes Go.ChangeAt Go.RowKit Go.Pin Go.Fld
theorem num_prod {a b : List Int} (ha : Lim a) (hb : Lim b) : num (prod a b) = num a * num b % P := by
  apply num_of
  rw [(prod_el ha hb).2, Int.natCast_mul, num_cast, num_cast, ← Int.mul_emod]
theorem V_zip (a b : List Int) (h : a.length = b.length) : V (List.zipWith (· + ·) a b) = V a + V b := by
  induction a generalizing b with
  | nil => cases b with | nil => rfl | cons _ _ => simp at h
  | cons x a ih =>
    cases b with
    | nil => simp at h
    | cons y b =>
      have := ih b (by simpa using h)
      simp only [List.zipWith_cons_cons, V_cons, this]
      omega
theorem V_zips (a b : List Int) (h : a.length = b.length) : V (List.zipWith (· - ·) a b) = V a - V b := by
  induction a generalizing b with
  | nil => cases b with | nil => rfl | cons _ _ => simp at h
  | cons x a ih =>
    cases b with
    | nil => simp at h
    | cons y b =>
      have := ih b (by simpa using h)
      simp only [List.zipWith_cons_cons, V_cons, this]
      omega
theorem add_lim {a b : List Int} (ha : Lim a) (hb : Lim b) : Lim (stl (List.zipWith (· + ·) a b)) := (stl_lim _ (zip_lim ha hb).1 (zip_lim ha hb).2).1
theorem subs_lim {a b : List Int} (ha : Lim a) (hb : Lim b) : Lim (stl (subL a b)) := (stl_lim _ (sub_lim ha hb).1 (sub_lim ha hb).2).1
theorem num_add {a b : List Int} (ha : Lim a) (hb : Lim b) : num (stl (List.zipWith (· + ·) a b)) = (num a + num b) % P := by
  apply num_of
  rw [(stl_lim _ (zip_lim ha hb).1 (zip_lim ha hb).2).2.1, V_zip _ _ (ha.len.trans hb.len.symm), Int.natCast_add, num_cast, num_cast, ← Int.add_emod]
theorem num_sub {a b : List Int} (ha : Lim a) (hb : Lim b) : num (stl (subL a b)) = (num a + (P - num b)) % P := by
  apply num_of
  have hl := num_lt b
  have e1 : V (subL a b) = V a + (V four - V b) := by
    rw [subL, V_zip _ _ (by simp [ha.len, hb.len, four]), V_zips _ _ (by simp [hb.len, four])]
  have e4 : V four = 4 * 57896044618658097711785492504343953926634992332820282019728792003956564819949 := by decide
  have ca := num_cast a
  have cb := num_cast b
  have hP : (P : Int) = 57896044618658097711785492504343953926634992332820282019728792003956564819949 := rfl
  rw [(stl_lim _ (sub_lim ha hb).1 (sub_lim ha hb).2).2.1, e1, e4, Int.natCast_add, Int.ofNat_sub (by omega), hP]
  omega
theorem num_dec (b : List Int) : num (dec b) = nb b % 2 ^ 255 % P := by
  apply num_of
  rw [dec_V]
/-- the same with numbers alone -/
def sqn (x f : Nat) : Nat := x * x % P * f % P
def pwn (a : Nat) : Nat → Nat
  | 0 => a
  | k + 1 => sqn (pwn a k) a
def fan (a k : Nat) : Nat := if k = 0 ∨ k = 2 then 1 else a
def qwn (a : Nat) : Nat → Nat
  | 0 => pwn a 249
  | k + 1 => sqn (qwn a k) (fan a k)
theorem num_sqm {x f : List Int} (hx : Lim x) (hf : Lim f) : num (sqm x f) = sqn (num x) (num f) := by
  rw [sqm, num_prod (prod_lim hx hx) hf, num_prod hx hx]; rfl
theorem num_pw {a : List Int} (h : Lim a) : ∀ k, num (pw a k) = pwn (num a) k
  | 0 => rfl
  | k + 1 => by rw [pw, num_sqm (pw_lim h k) h, num_pw h k]; rfl
theorem num_fac (a : List Int) (k : Nat) : num (fac a k) = fan (num a) k := by
  unfold fac fan
  split
  · decide
  · rfl
theorem num_qw {a : List Int} (h : Lim a) : ∀ k, num (qw a k) = qwn (num a) k
  | 0 => num_pw h 249
  | k + 1 => by rw [qw, num_sqm (qw_lim h k) (fac_lim h k), num_qw h k, num_fac]; rfl
theorem inv_two : qwn 2 5 * 20 % P = 10 := by decide +kernel
theorem num_small (n : Nat) (hn : n < 4294967296) : num [(n : Int), 0, 0, 0, 0] = n := by
  have := num_of (a := [(n : Int), 0, 0, 0, 0]) (n := n) (by simp only [V_cons, V_nil]; omega)
  rw [this]
  exact Nat.mod_eq_of_lt (Nat.lt_trans hn (by decide))
end Go.Proofs.Ytacofgmnmofkpaa
namespace Go.Proofs.Ytacofgmnmofkpaa
set_option linter.unusedSimpArgs false
open Go.ChangeShapes Go.WideShapes Go.ChangeAt Go.RowKit Go.Pin Go.Fld
/-- a Recorder and boxes of Elements beside it, all from B on -/
structure Env (B : Nat) (w : World) (R : Nat) (l : List (Int × Int)) (bx : List (Nat × List Int)) (wr : World) : Prop where
  old : Below B w wr
  ex : ∃ vs, Rec B wr R vs l ∧ ∀ p ∈ bx, rowAt wr p.1 p.2 47 ∧ ¬ Blk R vs p.1
  ge : ∀ p ∈ bx, B ≤ p.1
theorem Env.below {B : Nat} {w : World} {R : Nat} {l : List (Int × Int)} {bx : List (Nat × List Int)} {wr w' : World} (h : Env B w R l bx wr) (hb : Below wr.heap.size wr w') : Env B w R l bx w' := by
  obtain ⟨h1, ⟨vs, h2, h3⟩, h4⟩ := h
  exact ⟨h1.trans (hb.mono (by have := h2.1; have := h2.lt R (.inl rfl); omega)), ⟨vs, h2.below hb, fun p hp => ⟨row_below (h3 p hp).1 hb, (h3 p hp).2⟩⟩, h4⟩
theorem Env.new {B : Nat} {w : World} {R : Nat} {l : List (Int × Int)} {bx : List (Nat × List Int)} {wr : World} (h : Env B w R l bx wr) (x : List Int) : Env B w R l ((wr.heap.size, x) :: bx) (wr.alloc (.cells (VI .u64 x) 47)) := by
  have hb : Below wr.heap.size wr (wr.alloc (.cells (VI .u64 x) 47)) := (Below.refl _ _).alloc (Nat.le_refl _) _
  obtain ⟨h1, ⟨vs, h2, h3⟩, h4⟩ := h.below hb
  obtain ⟨g1, ⟨us, g2, g3⟩, g4⟩ := h
  refine ⟨h1, ⟨us, g2.below hb, fun p hp => ?_⟩, fun p hp => ?_⟩
  · rcases List.mem_cons.1 hp with rfl | hp
    · exact ⟨by simp only [rowAt, heap_alloc_any, if_true], fun hk => by have := g2.lt _ hk; simp at this⟩
    · exact ⟨row_below (g3 p hp).1 hb, (g3 p hp).2⟩
  · rcases List.mem_cons.1 hp with rfl | hp
    · have := g2.1; have := g2.lt R (.inl rfl); show B ≤ wr.heap.size; omega
    · exact h4 p hp
theorem Env.row {B : Nat} {w : World} {R : Nat} {l : List (Int × Int)} {bx : List (Nat × List Int)} {wr : World} (h : Env B w R l bx wr) {g : Nat} {x : List Int} (hp : (g, x) ∈ bx) : rowAt wr g x 47 := by
  obtain ⟨_, h3⟩ := h.ex
  exact (h3.2 _ hp).1
theorem Env.lt {B : Nat} {w : World} {R : Nat} {l : List (Int × Int)} {bx : List (Nat × List Int)} {wr : World} (h : Env B w R l bx wr) {g : Nat} {x : List Int} (hp : (g, x) ∈ bx) : g < wr.heap.size := (Array.getElem?_eq_some_iff.1 (h.row hp)).1
theorem Env.logged {B : Nat} {w : World} {R : Nat} {vs : Value} {l : List (Int × Int)} {bx : List (Nat × List Int)} {x : Int × Int} {wr w' : World} (hr : Rec B wr R vs l) (hbx : ∀ p ∈ bx, rowAt wr p.1 p.2 47 ∧ ¬ Blk R vs p.1) (h1 : Below B w wr) (h4 : ∀ p ∈ bx, B ≤ p.1) (hg : Logged B R vs l x wr w') : Env B w R (l ++ [x]) bx w' := by
  obtain ⟨vs', g1, g2, g3⟩ := hg
  refine ⟨h1.trans (g2.below hr.ge (by have := hr.1; have := hr.lt R (.inl rfl); omega)), ⟨vs', g1, fun p hp => ⟨row_grow (hbx p hp).1 g2 (hbx p hp).2, fun hk => ?_⟩⟩, h4⟩
  have hlt : p.1 < wr.heap.size := (Array.getElem?_eq_some_iff.1 (hbx p hp).1).1
  rcases hk with hk | hk
  · exact (hbx p hp).2 (.inl hk)
  · rcases g3 with g3 | ⟨g, g3, hge⟩
    · exact (hbx p hp).2 (.inr (g3 ▸ hk))
    · rw [g3] at hk; injection hk with hk; omega
theorem Env.op {B : Nat} {w : World} {R : Nat} {l : List (Int × Int)} {bx : List (Nat × List Int)} {wr : World} (h : Env B w R l bx wr) (hl : l.length ≤ 1000000) (v : Int) : ∃ Q, Opc (.pointer (some ⟨R, 0, none⟩)) v wr Q ∧ ∀ w', Opd Q wr w' → Env B w R (l ++ [(3, v)]) bx w' := by
  obtain ⟨h1, ⟨vs, h2, h3⟩, h4⟩ := h
  exact ⟨_, opc_rec v h2 hl, fun w' ho => Env.logged h2 h3 h1 h4 (Opd.rec h2 ho)⟩
section
variable {B : Nat} {w : World} {R : Nat} {l : List (Int × Int)} {bx : List (Nat × List Int)} {wr : World} (h : Env B w R l bx wr) (hl : l.length ≤ 1000000) {a b : List Int} (ha : Lim a) (hb : Lim b)
include h hl ha
include hb in
theorem e_add : Calls Try.prog 34 #[.pointer (some ⟨R, 0, none⟩), .agg (VI .u64 a), .agg (VI .u64 b)] wr fun e w' => e = .returned (.agg (VI .u64 (stl (List.zipWith (· + ·) a b)))) ∧ Env B w R (l ++ [(3, 1)]) bx w' := by
  obtain ⟨Q, h1, h2⟩ := h.op hl 1
  exact (add_any _ a b ha hb wr Q h1).mono fun e w' hh => ⟨hh.1, h2 w' hh.2⟩
include hb in
theorem e_sub : Calls Try.prog 37 #[.pointer (some ⟨R, 0, none⟩), .agg (VI .u64 a), .agg (VI .u64 b)] wr fun e w' => e = .returned (.agg (VI .u64 (stl (subL a b)))) ∧ Env B w R (l ++ [(3, 2)]) bx w' := by
  obtain ⟨Q, h1, h2⟩ := h.op hl 2
  exact (sub_any _ a b ha hb wr Q h1).mono fun e w' hh => ⟨hh.1, h2 w' hh.2⟩
include hb in
theorem e_mul : Calls Try.prog 39 #[.pointer (some ⟨R, 0, none⟩), .agg (VI .u64 a), .agg (VI .u64 b)] wr fun e w' => e = .returned (.agg (VI .u64 (prod a b))) ∧ Env B w R (l ++ [(3, 3)]) bx w' := by
  obtain ⟨Q, h1, h2⟩ := h.op hl 3
  exact (mul_any _ a b ha hb wr Q h1).mono fun e w' hh => ⟨hh.1, h2 w' hh.2⟩
theorem e_square : Calls Try.prog 41 #[.pointer (some ⟨R, 0, none⟩), .agg (VI .u64 a)] wr fun e w' => e = .returned (.agg (VI .u64 (prod a a))) ∧ Env B w R (l ++ [(3, 4)]) bx w' := by
  obtain ⟨Q, h1, h2⟩ := h.op hl 4
  exact (square_any _ a ha wr Q h1).mono fun e w' hh => ⟨hh.1, h2 w' hh.2⟩
theorem e_scale (n : Int) (n0 : 0 ≤ n) (n1 : n < 4294967296) : Calls Try.prog 42 #[.pointer (some ⟨R, 0, none⟩), .agg (VI .u64 a), .int .u32 n] wr fun e w' => e = .returned (.agg (VI .u64 (prod a [n, 0, 0, 0, 0]))) ∧ Env B w R (l ++ [(3, 5)]) bx w' := by
  obtain ⟨Q, h1, h2⟩ := h.op hl 5
  exact (scale_any _ a n n0 n1 ha wr Q h1).mono fun e w' hh => ⟨hh.1, h2 w' hh.2⟩
theorem e_invert : Calls Try.prog 44 #[.pointer (some ⟨R, 0, none⟩), .agg (VI .u64 a)] wr fun e w' => e = .returned (.agg (VI .u64 (qw a 5))) ∧ Env B w R (l ++ [(3, 6)]) bx w' := by
  obtain ⟨Q, h1, h2⟩ := h.op hl 6
  exact (invert_any _ a ha wr Q h1).mono fun e w' hh => ⟨hh.1, h2 w' hh.2⟩
end
theorem swI_rows {w : World} {ga gb : Nat} {a b x y : List Int} {T : TypeId} (ha : rowAt w ga a T) (hb : rowAt w gb b T) (la : a.length = 5) (lb : b.length = 5) : SwI ga 0 gb 0 w a b x y 0 w :=
  ⟨CW.refl _ _, fun j hj => by rw [Nat.zero_add, if_neg (by omega)]; exact row_cell ha (by omega), fun j hj => by rw [Nat.zero_add, if_neg (by omega)]; exact row_cell hb (by omega), fun j => frozen_of_row w _ _ _ _ ha, fun j => frozen_of_row w _ _ _ _ hb⟩
theorem swI_done {W1 w' : World} {ga gb : Nat} {a b x y : List Int} {T : TypeId} (h : SwI ga 0 gb 0 W1 a b x y 5 w') (ha : rowAt W1 ga a T) (hb : rowAt W1 gb b T) (la : a.length = 5) (lb : b.length = 5) (lx : x.length = 5) (ly : y.length = 5) : rowAt w' ga x T ∧ rowAt w' gb y T ∧ But (fun k => k = ga ∨ k = gb) W1 w' := by
  refine ⟨h.cw.row ha (lx.trans la.symm) (fun j hj => ?_), h.cw.row hb (ly.trans lb.symm) (fun j hj => ?_), ⟨h.cw.os, h.cw.tape, h.cw.output, h.cw.size, fun k hk => h.cw.other k (fun j hs => ?_)⟩⟩
  · have := h.ca j (by omega); rw [Nat.zero_add, if_pos (by omega)] at this; exact this
  · have := h.cb j (by omega); rw [Nat.zero_add, if_pos (by omega)] at this; exact this
  · rcases hs with hs | hs
    · exact hk (.inl hs.1)
    · exact hk (.inr hs.1)
/-- Swap of two boxes -/
theorem e_swap {B : Nat} {w : World} {R : Nat} {l : List (Int × Int)} {bx : List (Nat × List Int)} {wr : World} {ga gb : Nat} {a b : List Int} (h : Env B w R l ((ga, a) :: (gb, b) :: bx) wr) (hl : l.length ≤ 1000000) (ha : Lim a) (hb : Lim b) (hab : ga ≠ gb) (hbx : ∀ p ∈ bx, p.1 ≠ ga ∧ p.1 ≠ gb) (s : Int) (s0 : 0 ≤ s) (s1 : s < 18446744073709551616) :
    Calls Try.prog 46 #[.pointer (some ⟨R, 0, none⟩), .int .u64 s, .pointer (some ⟨ga, 0, none⟩), .pointer (some ⟨gb, 0, none⟩)] wr fun e w' => e = .returned (.tuple #[]) ∧ Env B w R (l ++ [(3, 7)]) ((ga, swp s a b) :: (gb, swp s b a) :: bx) w' := by
  obtain ⟨h1, ⟨vs, h2, h3⟩, h4⟩ := h
  have hla : (swp s a b).length = 5 := by unfold swp; split; exact hb.len; exact ha.len
  have hlb : (swp s b a).length = 5 := by unfold swp; split; exact ha.len; exact hb.len
  refine (fswap_any _ s s0 s1 ga 0 gb 0 a b ha hb wr (fun W1 => Env B w R (l ++ [(3, 7)]) ((ga, a) :: (gb, b) :: bx) W1) ?_ (fun W1 hq => swI_rows (hq.row (by simp)) (hq.row (by simp)) ha.len hb.len) (.inl fun i j _ _ e => hab (congrArg Addr.block e))).mono ?_
  · exact (rOp_any B R vs l 7 wr h2 hl).mono fun e W1 hh => ⟨hh.1, Env.logged h2 h3 h1 h4 hh.2⟩
  · rintro e w' ⟨he, W1, hq, hs⟩
    refine ⟨he, ?_⟩
    obtain ⟨q1, q2, q3⟩ := swI_done hs (hq.row (by simp)) (hq.row (by simp)) ha.len hb.len hla hlb
    obtain ⟨k1, ⟨us, k2, k3⟩, k4⟩ := hq
    have nA := (k3 (ga, a) (by simp)).2
    have nB := (k3 (gb, b) (by simp)).2
    have gA := k4 (ga, a) (by simp)
    have gB := k4 (gb, b) (by simp)
    have hg : Grow (fun k => k = ga ∨ k = gb) W1 w' := ⟨q3.os, q3.tape, q3.output, by rw [q3.size]; exact Nat.le_refl _, fun k _ hk => q3.block k hk⟩
    refine ⟨k1.trans (q3.below (fun k hk => by rcases hk with rfl | rfl; exact gA; exact gB)), ⟨us, k2.grow hg (fun k hk hn => by rcases hn with rfl | rfl; exact nA hk; exact nB hk), fun p hp => ?_⟩, fun p hp => ?_⟩
    · simp only [List.mem_cons] at hp
      rcases hp with rfl | rfl | hp
      · exact ⟨q1, nA⟩
      · exact ⟨q2, nB⟩
      · have hn := hbx p hp
        exact ⟨(q3.block p.1 (by omega)).trans (k3 p (by simp [hp])).1, (k3 p (by simp [hp])).2⟩
    · simp only [List.mem_cons] at hp
      rcases hp with rfl | rfl | hp
      · exact gA
      · exact gB
      · exact k4 p (by simp [hp])
theorem e_total {B : Nat} {w : World} {R : Nat} {l : List (Int × Int)} {bx : List (Nat × List Int)} {wr : World} (h : Env B w R l bx wr) : Calls Try.prog 13 #[.pointer (some ⟨R, 0, none⟩)] wr fun e w' => e = .returned (.int .i64 l.length) ∧ w' = wr := by
  obtain ⟨vs, h2, _⟩ := h.ex
  exact total_any _ vs l wr h2.opt
theorem e_new (w : World) : Env w.heap.size w w.heap.size [] [] (w.alloc (.cells #[.slice none 0 0, .int .i64 0] 82)) :=
  ⟨(Below.refl _ _).alloc (Nat.le_refl _) _, ⟨_, rec_new w, by simp⟩, by simp⟩
theorem Env.sub {B : Nat} {w : World} {R : Nat} {l : List (Int × Int)} {bx by' : List (Nat × List Int)} {wr : World} (h : Env B w R l bx wr) (hs : ∀ p ∈ by', p ∈ bx) : Env B w R l by' wr := by
  obtain ⟨h1, ⟨vs, h2, h3⟩, h4⟩ := h
  exact ⟨h1, ⟨vs, h2, fun p hp => h3 p (hs p hp)⟩, fun p hp => h4 p (hs p hp)⟩
/-- bytes of a small number -/
def kk (n : Int) : List Int := [n, 0, 0, 0, 0, 0, 0, 0, 0, 0, 0, 0, 0, 0, 0, 0, 0, 0, 0, 0, 0, 0, 0, 0, 0, 0, 0, 0, 0, 0, 0, 0]
theorem kk_key (n : Int) (h0 : 0 ≤ n) (h1 : n < 256) : Key32 (kk n) := ⟨rfl, by simp [kk]; omega⟩
theorem lim_small (n : Int) (h0 : 0 ≤ n) (h1 : n < 4503599627370496) : Lim [n, 0, 0, 0, 0] := ⟨rfl, by simp; omega⟩
theorem enc_is {x : List Int} {n : Int} (hx : Lim x) (hn : bts (num x) = kk n) (w : World) : Calls Try.prog 22 #[.agg (VI .u64 x)] w fun e w' => e = .returned (.agg (VI .u8 (kk n))) ∧ Below w.heap.size w w' := by
  have := enc_any x hx w
  rw [hn] at this
  exact this
theorem dec_is {n : Int} (h0 : 0 ≤ n) (h1 : n < 256) (hd : dec (kk n) = [n, 0, 0, 0, 0]) (w : World) : Calls Try.prog 21 #[.agg (VI .u8 (kk n))] w fun e w' => e = .returned (.agg (VI .u64 [n, 0, 0, 0, 0])) ∧ Below w.heap.size w w' := by
  have := decode_any (kk n) (kk_key n h0 h1) w
  rw [hd] at this
  exact this
end Go.Proofs.Ytacofgmnmofkpaa
namespace Go.Proofs.Ytacofgmnmofkpaa
set_option linter.unusedSimpArgs false
open Go.ChangeShapes Go.WideShapes Go.ChangeAt Go.RowKit Go.Pin Go.Fld
set_option maxRecDepth 100000 in
set_option maxHeartbeats 8000000 in
theorem known_any (w : World) : Calls Try.prog 19 #[] w fun e w' => e = .returned (.bool true) ∧ Below w.heap.size w w' := by
  have D3 : Hid (∀ w, Calls Try.prog 21 #[.agg #[.int .u8 3, .int .u8 0, .int .u8 0, .int .u8 0, .int .u8 0, .int .u8 0, .int .u8 0, .int .u8 0, .int .u8 0, .int .u8 0, .int .u8 0, .int .u8 0, .int .u8 0, .int .u8 0, .int .u8 0, .int .u8 0, .int .u8 0, .int .u8 0, .int .u8 0, .int .u8 0, .int .u8 0, .int .u8 0, .int .u8 0, .int .u8 0, .int .u8 0, .int .u8 0, .int .u8 0, .int .u8 0, .int .u8 0, .int .u8 0, .int .u8 0, .int .u8 0]] w fun e w' => e = .returned (.agg #[.int .u64 3, .int .u64 0, .int .u64 0, .int .u64 0, .int .u64 0]) ∧ Below w.heap.size w w') := fun w => dec_is (n := 3) (by decide) (by decide) (by decide) w
  have D4 : Hid (∀ w, Calls Try.prog 21 #[.agg #[.int .u8 4, .int .u8 0, .int .u8 0, .int .u8 0, .int .u8 0, .int .u8 0, .int .u8 0, .int .u8 0, .int .u8 0, .int .u8 0, .int .u8 0, .int .u8 0, .int .u8 0, .int .u8 0, .int .u8 0, .int .u8 0, .int .u8 0, .int .u8 0, .int .u8 0, .int .u8 0, .int .u8 0, .int .u8 0, .int .u8 0, .int .u8 0, .int .u8 0, .int .u8 0, .int .u8 0, .int .u8 0, .int .u8 0, .int .u8 0, .int .u8 0, .int .u8 0]] w fun e w' => e = .returned (.agg #[.int .u64 4, .int .u64 0, .int .u64 0, .int .u64 0, .int .u64 0]) ∧ Below w.heap.size w w') := fun w => dec_is (n := 4) (by decide) (by decide) (by decide) w
  have D2 : Hid (∀ w, Calls Try.prog 21 #[.agg #[.int .u8 2, .int .u8 0, .int .u8 0, .int .u8 0, .int .u8 0, .int .u8 0, .int .u8 0, .int .u8 0, .int .u8 0, .int .u8 0, .int .u8 0, .int .u8 0, .int .u8 0, .int .u8 0, .int .u8 0, .int .u8 0, .int .u8 0, .int .u8 0, .int .u8 0, .int .u8 0, .int .u8 0, .int .u8 0, .int .u8 0, .int .u8 0, .int .u8 0, .int .u8 0, .int .u8 0, .int .u8 0, .int .u8 0, .int .u8 0, .int .u8 0, .int .u8 0]] w fun e w' => e = .returned (.agg #[.int .u64 2, .int .u64 0, .int .u64 0, .int .u64 0, .int .u64 0]) ∧ Below w.heap.size w w') := fun w => dec_is (n := 2) (by decide) (by decide) (by decide) w
  have l2 : Lim [2, 0, 0, 0, 0] := lim_small 2 (by decide) (by decide)
  have l3 : Lim [3, 0, 0, 0, 0] := lim_small 3 (by decide) (by decide)
  have l4 : Lim [4, 0, 0, 0, 0] := lim_small 4 (by decide) (by decide)
  have n2 : num [2, 0, 0, 0, 0] = 2 := num_small 2 (by decide)
  have n3 : num [3, 0, 0, 0, 0] = 3 := num_small 3 (by decide)
  have n4 : num [4, 0, 0, 0, 0] = 4 := num_small 4 (by decide)
  have n20 : num [20, 0, 0, 0, 0] = 20 := num_small 20 (by decide)
  obtain ⟨h0, h1, h2, h3, h4, eh⟩ := five (qw_lim l2 5).len
  have limh : Lim [h0, h1, h2, h3, h4] := eh ▸ qw_lim l2 5
  have numh : num [h0, h1, h2, h3, h4] = qwn 2 5 := by rw [← eh, num_qw l2 5, n2]
  have vh : VI .u64 (qw [2, 0, 0, 0, 0] 5) = #[.int .u64 h0, .int .u64 h1, .int .u64 h2, .int .u64 h3, .int .u64 h4] := by rw [eh]; rfl
  obtain ⟨m0, m1, m2, m3, m4, em⟩ := five (prod_lim l3 l4).len
  have limm : Lim [m0, m1, m2, m3, m4] := em ▸ prod_lim l3 l4
  have numm : num [m0, m1, m2, m3, m4] = 12 := by rw [← em, num_prod l3 l4, n3, n4]; decide
  have vm : VI .u64 (prod [3, 0, 0, 0, 0] [4, 0, 0, 0, 0]) = #[.int .u64 m0, .int .u64 m1, .int .u64 m2, .int .u64 m3, .int .u64 m4] := by rw [em]; rfl
  obtain ⟨s0, s1, s2, s3, s4, es⟩ := five (add_lim l3 l4).len
  have lims : Lim [s0, s1, s2, s3, s4] := es ▸ add_lim l3 l4
  have nums : num [s0, s1, s2, s3, s4] = 7 := by rw [← es, num_add l3 l4, n3, n4]; decide
  have vs : VI .u64 (stl (List.zipWith (· + ·) [3, 0, 0, 0, 0] [4, 0, 0, 0, 0])) = #[.int .u64 s0, .int .u64 s1, .int .u64 s2, .int .u64 s3, .int .u64 s4] := by rw [es]; rfl
  obtain ⟨q0, q1, q2, q3, q4, eq⟩ := five (prod_lim l3 l3).len
  have limq : Lim [q0, q1, q2, q3, q4] := eq ▸ prod_lim l3 l3
  have numq : num [q0, q1, q2, q3, q4] = 9 := by rw [← eq, num_prod l3 l3, n3]; decide
  have vq : VI .u64 (prod [3, 0, 0, 0, 0] [3, 0, 0, 0, 0]) = #[.int .u64 q0, .int .u64 q1, .int .u64 q2, .int .u64 q3, .int .u64 q4] := by rw [eq]; rfl
  obtain ⟨d0, d1, d2, d3, d4, ed⟩ := five (subs_lim l4 l3).len
  have limd : Lim [d0, d1, d2, d3, d4] := ed ▸ subs_lim l4 l3
  have numd : num [d0, d1, d2, d3, d4] = 1 := by rw [← ed, num_sub l4 l3, n3, n4]; decide
  have vd : VI .u64 (stl (subL [4, 0, 0, 0, 0] [3, 0, 0, 0, 0])) = #[.int .u64 d0, .int .u64 d1, .int .u64 d2, .int .u64 d3, .int .u64 d4] := by rw [ed]; rfl
  obtain ⟨t0, t1, t2, t3, t4, et⟩ := five (prod_lim limh (lim_small 20 (by decide) (by decide))).len
  have limt : Lim [t0, t1, t2, t3, t4] := et ▸ prod_lim limh (lim_small 20 (by decide) (by decide))
  have numt : num [t0, t1, t2, t3, t4] = 10 := by rw [← et, num_prod limh (lim_small 20 (by decide) (by decide)), numh, n20]; exact inv_two
  have vt : VI .u64 (prod [h0, h1, h2, h3, h4] [20, 0, 0, 0, 0]) = #[.int .u64 t0, .int .u64 t1, .int .u64 t2, .int .u64 t3, .int .u64 t4] := by rw [et]; rfl
  have Cm : Hid (∀ w, Calls Try.prog 22 #[.agg #[.int .u64 m0, .int .u64 m1, .int .u64 m2, .int .u64 m3, .int .u64 m4]] w fun e w' => e = .returned (.agg (VI .u8 (kk 12))) ∧ Below w.heap.size w w') := fun w => enc_is (n := 12) limm (by rw [numm]; decide) w
  have Cs : Hid (∀ w, Calls Try.prog 22 #[.agg #[.int .u64 s0, .int .u64 s1, .int .u64 s2, .int .u64 s3, .int .u64 s4]] w fun e w' => e = .returned (.agg (VI .u8 (kk 7))) ∧ Below w.heap.size w w') := fun w => enc_is (n := 7) lims (by rw [nums]; decide) w
  have Cq : Hid (∀ w, Calls Try.prog 22 #[.agg #[.int .u64 q0, .int .u64 q1, .int .u64 q2, .int .u64 q3, .int .u64 q4]] w fun e w' => e = .returned (.agg (VI .u8 (kk 9))) ∧ Below w.heap.size w w') := fun w => enc_is (n := 9) limq (by rw [numq]; decide) w
  have Cd : Hid (∀ w, Calls Try.prog 22 #[.agg #[.int .u64 d0, .int .u64 d1, .int .u64 d2, .int .u64 d3, .int .u64 d4]] w fun e w' => e = .returned (.agg (VI .u8 (kk 1))) ∧ Below w.heap.size w w') := fun w => enc_is (n := 1) limd (by rw [numd]; decide) w
  have Ct : Hid (∀ w, Calls Try.prog 22 #[.agg #[.int .u64 t0, .int .u64 t1, .int .u64 t2, .int .u64 t3, .int .u64 t4]] w fun e w' => e = .returned (.agg (VI .u8 (kk 10))) ∧ Below w.heap.size w w') := fun w => enc_is (n := 10) limt (by rw [numt]; decide) w
  have C3 : Hid (∀ w, Calls Try.prog 22 #[.agg #[.int .u64 3, .int .u64 0, .int .u64 0, .int .u64 0, .int .u64 0]] w fun e w' => e = .returned (.agg (VI .u8 (kk 3))) ∧ Below w.heap.size w w') := fun w => enc_is (n := 3) l3 (by rw [n3]; decide) w
  have C4 : Hid (∀ w, Calls Try.prog 22 #[.agg #[.int .u64 4, .int .u64 0, .int .u64 0, .int .u64 0, .int .u64 0]] w fun e w' => e = .returned (.agg (VI .u8 (kk 4))) ∧ Below w.heap.size w w') := fun w => enc_is (n := 4) l4 (by rw [n4]; decide) w
  have Q12 : ∀ w, (Op.equalIn 10000 57 (.agg (VI .u8 (kk 12))) (.agg #[.int .u8 12, .int .u8 0, .int .u8 0, .int .u8 0, .int .u8 0, .int .u8 0, .int .u8 0, .int .u8 0, .int .u8 0, .int .u8 0, .int .u8 0, .int .u8 0, .int .u8 0, .int .u8 0, .int .u8 0, .int .u8 0, .int .u8 0, .int .u8 0, .int .u8 0, .int .u8 0, .int .u8 0, .int .u8 0, .int .u8 0, .int .u8 0, .int .u8 0, .int .u8 0, .int .u8 0, .int .u8 0, .int .u8 0, .int .u8 0, .int .u8 0, .int .u8 0])).run Try.prog w = .ok true w := fun w => run_equalIn_row w 9998 57 5 .u8 32 (kk 12) (kk 12) rfl rfl Try.underlying57 Try.underlying5 size5
  have Q7 : ∀ w, (Op.equalIn 10000 57 (.agg (VI .u8 (kk 7))) (.agg #[.int .u8 7, .int .u8 0, .int .u8 0, .int .u8 0, .int .u8 0, .int .u8 0, .int .u8 0, .int .u8 0, .int .u8 0, .int .u8 0, .int .u8 0, .int .u8 0, .int .u8 0, .int .u8 0, .int .u8 0, .int .u8 0, .int .u8 0, .int .u8 0, .int .u8 0, .int .u8 0, .int .u8 0, .int .u8 0, .int .u8 0, .int .u8 0, .int .u8 0, .int .u8 0, .int .u8 0, .int .u8 0, .int .u8 0, .int .u8 0, .int .u8 0, .int .u8 0])).run Try.prog w = .ok true w := fun w => run_equalIn_row w 9998 57 5 .u8 32 (kk 7) (kk 7) rfl rfl Try.underlying57 Try.underlying5 size5
  have Q9 : ∀ w, (Op.equalIn 10000 57 (.agg (VI .u8 (kk 9))) (.agg #[.int .u8 9, .int .u8 0, .int .u8 0, .int .u8 0, .int .u8 0, .int .u8 0, .int .u8 0, .int .u8 0, .int .u8 0, .int .u8 0, .int .u8 0, .int .u8 0, .int .u8 0, .int .u8 0, .int .u8 0, .int .u8 0, .int .u8 0, .int .u8 0, .int .u8 0, .int .u8 0, .int .u8 0, .int .u8 0, .int .u8 0, .int .u8 0, .int .u8 0, .int .u8 0, .int .u8 0, .int .u8 0, .int .u8 0, .int .u8 0, .int .u8 0, .int .u8 0])).run Try.prog w = .ok true w := fun w => run_equalIn_row w 9998 57 5 .u8 32 (kk 9) (kk 9) rfl rfl Try.underlying57 Try.underlying5 size5
  have Q1 : ∀ w, (Op.equalIn 10000 57 (.agg (VI .u8 (kk 1))) (.agg #[.int .u8 1, .int .u8 0, .int .u8 0, .int .u8 0, .int .u8 0, .int .u8 0, .int .u8 0, .int .u8 0, .int .u8 0, .int .u8 0, .int .u8 0, .int .u8 0, .int .u8 0, .int .u8 0, .int .u8 0, .int .u8 0, .int .u8 0, .int .u8 0, .int .u8 0, .int .u8 0, .int .u8 0, .int .u8 0, .int .u8 0, .int .u8 0, .int .u8 0, .int .u8 0, .int .u8 0, .int .u8 0, .int .u8 0, .int .u8 0, .int .u8 0, .int .u8 0])).run Try.prog w = .ok true w := fun w => run_equalIn_row w 9998 57 5 .u8 32 (kk 1) (kk 1) rfl rfl Try.underlying57 Try.underlying5 size5
  have Q10 : ∀ w, (Op.equalIn 10000 57 (.agg (VI .u8 (kk 10))) (.agg #[.int .u8 10, .int .u8 0, .int .u8 0, .int .u8 0, .int .u8 0, .int .u8 0, .int .u8 0, .int .u8 0, .int .u8 0, .int .u8 0, .int .u8 0, .int .u8 0, .int .u8 0, .int .u8 0, .int .u8 0, .int .u8 0, .int .u8 0, .int .u8 0, .int .u8 0, .int .u8 0, .int .u8 0, .int .u8 0, .int .u8 0, .int .u8 0, .int .u8 0, .int .u8 0, .int .u8 0, .int .u8 0, .int .u8 0, .int .u8 0, .int .u8 0, .int .u8 0])).run Try.prog w = .ok true w := fun w => run_equalIn_row w 9998 57 5 .u8 32 (kk 10) (kk 10) rfl rfl Try.underlying57 Try.underlying5 size5
  have Q3 : ∀ w, (Op.equalIn 10000 57 (.agg (VI .u8 (kk 3))) (.agg #[.int .u8 3, .int .u8 0, .int .u8 0, .int .u8 0, .int .u8 0, .int .u8 0, .int .u8 0, .int .u8 0, .int .u8 0, .int .u8 0, .int .u8 0, .int .u8 0, .int .u8 0, .int .u8 0, .int .u8 0, .int .u8 0, .int .u8 0, .int .u8 0, .int .u8 0, .int .u8 0, .int .u8 0, .int .u8 0, .int .u8 0, .int .u8 0, .int .u8 0, .int .u8 0, .int .u8 0, .int .u8 0, .int .u8 0, .int .u8 0, .int .u8 0, .int .u8 0])).run Try.prog w = .ok true w := fun w => run_equalIn_row w 9998 57 5 .u8 32 (kk 3) (kk 3) rfl rfl Try.underlying57 Try.underlying5 size5
  have Q4 : ∀ w, (Op.equalIn 10000 57 (.agg (VI .u8 (kk 4))) (.agg #[.int .u8 4, .int .u8 0, .int .u8 0, .int .u8 0, .int .u8 0, .int .u8 0, .int .u8 0, .int .u8 0, .int .u8 0, .int .u8 0, .int .u8 0, .int .u8 0, .int .u8 0, .int .u8 0, .int .u8 0, .int .u8 0, .int .u8 0, .int .u8 0, .int .u8 0, .int .u8 0, .int .u8 0, .int .u8 0, .int .u8 0, .int .u8 0, .int .u8 0, .int .u8 0, .int .u8 0, .int .u8 0, .int .u8 0, .int .u8 0, .int .u8 0, .int .u8 0])).run Try.prog w = .ok true w := fun w => run_equalIn_row w 9998 57 5 .u8 32 (kk 4) (kk 4) rfl rfl Try.underlying57 Try.underlying5 size5
  have Lh : Hid (Lim [h0, h1, h2, h3, h4]) := limh
  have Lm : Hid (Lim [m0, m1, m2, m3, m4]) := limm
  have Ls : Hid (Lim [s0, s1, s2, s3, s4]) := lims
  have Lq : Hid (Lim [q0, q1, q2, q3, q4]) := limq
  have Ld : Hid (Lim [d0, d1, d2, d3, d4]) := limd
  have Lt : Hid (Lim [t0, t1, t2, t3, t4]) := limt
  have L2 : Hid (Lim [2, 0, 0, 0, 0]) := l2
  have L3 : Hid (Lim [3, 0, 0, 0, 0]) := l3
  have L4 : Hid (Lim [4, 0, 0, 0, 0]) := l4
  clear eh em es eq ed et numh numm nums numq numd numt limh limm lims limq limd limt n2 n3 n4 n20 l2 l3 l4
  go_enter Try.func19, Try.ntmps19
  go_wp2_with (fail)
  refine (new_any _).mono ?_
  rintro e w1 ⟨rfl, hw1⟩
  have X1 : Hid (Env w.heap.size w w.heap.size [] [] w1) := by rw [hw1]; exact e_new w
  clear hw1
  obtain ⟨n, hn⟩ : ∃ n, w.heap.size = n := ⟨_, rfl⟩
  rw [hn] at X1
  go_wp2_with (fail)
  refine (D3.out _).mono ?_
  rintro e w2 ⟨rfl, hb⟩
  have X2 : Hid (Env n w n [] [] w2) := X1.out.below hb
  clear hb X1
  go_wp2_with (fail)
  obtain ⟨w3, hW⟩ : ∃ W, w2.alloc (.cells #[.int .u64 3, .int .u64 0, .int .u64 0, .int .u64 0, .int .u64 0] 47) = W := ⟨_, rfl⟩
  have hN := X2.out.new [3, 0, 0, 0, 0]
  rw [show w2.alloc (.cells (VI .u64 [3, 0, 0, 0, 0]) 47) = w3 from hW] at hN
  rw [hW]
  clear hW
  obtain ⟨ga, hg⟩ : ∃ g, w2.heap.size = g := ⟨_, rfl⟩
  rw [hg] at hN
  simp only [hg]
  clear hg
  have X3 : Hid (Env n w n [] [(ga, [3, 0, 0, 0, 0])] w3) := hN
  clear hN X2
  refine (D4.out _).mono ?_
  rintro e w4 ⟨rfl, hb⟩
  have X4 : Hid (Env n w n [] [(ga, [3, 0, 0, 0, 0])] w4) := X3.out.below hb
  clear hb X3
  go_wp2_with (fail)
  obtain ⟨w5, hW⟩ : ∃ W, w4.alloc (.cells #[.int .u64 4, .int .u64 0, .int .u64 0, .int .u64 0, .int .u64 0] 47) = W := ⟨_, rfl⟩
  have hN := X4.out.new [4, 0, 0, 0, 0]
  rw [show w4.alloc (.cells (VI .u64 [4, 0, 0, 0, 0]) 47) = w5 from hW] at hN
  rw [hW]
  clear hW
  obtain ⟨gb, hg⟩ : ∃ g, w4.heap.size = g := ⟨_, rfl⟩
  have Nb : Hid (ga < gb) := by have h0 := X4.out.lt (g := ga) (x := [3, 0, 0, 0, 0]) (by simp); rw [hg] at h0; exact h0
  rw [hg] at hN
  simp only [hg]
  clear hg
  have X5 : Hid (Env n w n [] [(gb, [4, 0, 0, 0, 0]), (ga, [3, 0, 0, 0, 0])] w5) := hN
  clear hN X4
  refine (D2.out _).mono ?_
  rintro e w6 ⟨rfl, hb⟩
  have X6 : Hid (Env n w n [] [(gb, [4, 0, 0, 0, 0]), (ga, [3, 0, 0, 0, 0])] w6) := X5.out.below hb
  clear hb X5
  go_wp2_with (fail)
  have hC := e_invert X6.out (by simp) L2.out
  rw [vh] at hC
  refine hC.mono ?_
  clear hC
  rintro e w7 ⟨rfl, hb⟩
  have X7 : Hid (Env n w n [(3, 6)] [(gb, [4, 0, 0, 0, 0]), (ga, [3, 0, 0, 0, 0])] w7) := hb
  clear hb X6
  obtain ⟨c00, c01, c02, c03, c04⟩ := cells5 (X7.out.row (g := ga) (x := [3, 0, 0, 0, 0]) (by simp))
  have k0 := X7.out.lt (g := ga) (x := [3, 0, 0, 0, 0]) (by simp)
  obtain ⟨c10, c11, c12, c13, c14⟩ := cells5 (X7.out.row (g := gb) (x := [4, 0, 0, 0, 0]) (by simp))
  have k1 := X7.out.lt (g := gb) (x := [4, 0, 0, 0, 0]) (by simp)
  go_wp2_with (fail)
  clear c00 c01 c02 c03 c04 k0
  clear c10 c11 c12 c13 c14 k1
  obtain ⟨w8, hW⟩ : ∃ W, w7.alloc (.cells #[.int .u64 h0, .int .u64 h1, .int .u64 h2, .int .u64 h3, .int .u64 h4] 47) = W := ⟨_, rfl⟩
  have hN := X7.out.new [h0, h1, h2, h3, h4]
  rw [show w7.alloc (.cells (VI .u64 [h0, h1, h2, h3, h4]) 47) = w8 from hW] at hN
  rw [hW]
  clear hW
  obtain ⟨gh, hg⟩ : ∃ g, w7.heap.size = g := ⟨_, rfl⟩
  have Nh : Hid (gb < gh) := by have h0 := X7.out.lt (g := gb) (x := [4, 0, 0, 0, 0]) (by simp); rw [hg] at h0; exact h0
  rw [hg] at hN
  simp only [hg]
  clear hg
  have X8 : Hid (Env n w n [(3, 6)] [(gh, [h0, h1, h2, h3, h4]), (gb, [4, 0, 0, 0, 0]), (ga, [3, 0, 0, 0, 0])] w8) := hN
  clear hN X7
  have hC := e_mul X8.out (by simp) L3.out L4.out
  rw [vm] at hC
  refine hC.mono ?_
  clear hC
  rintro e w9 ⟨rfl, hb⟩
  have X9 : Hid (Env n w n [(3, 6), (3, 3)] [(gh, [h0, h1, h2, h3, h4]), (gb, [4, 0, 0, 0, 0]), (ga, [3, 0, 0, 0, 0])] w9) := hb
  clear hb X8
  obtain ⟨c00, c01, c02, c03, c04⟩ := cells5 (X9.out.row (g := ga) (x := [3, 0, 0, 0, 0]) (by simp))
  have k0 := X9.out.lt (g := ga) (x := [3, 0, 0, 0, 0]) (by simp)
  obtain ⟨c10, c11, c12, c13, c14⟩ := cells5 (X9.out.row (g := gb) (x := [4, 0, 0, 0, 0]) (by simp))
  have k1 := X9.out.lt (g := gb) (x := [4, 0, 0, 0, 0]) (by simp)
  go_wp2_with (fail)
  clear c00 c01 c02 c03 c04 k0
  clear c10 c11 c12 c13 c14 k1
  obtain ⟨w10, hW⟩ : ∃ W, w9.alloc (.cells #[.int .u64 m0, .int .u64 m1, .int .u64 m2, .int .u64 m3, .int .u64 m4] 47) = W := ⟨_, rfl⟩
  have hN := X9.out.new [m0, m1, m2, m3, m4]
  rw [show w9.alloc (.cells (VI .u64 [m0, m1, m2, m3, m4]) 47) = w10 from hW] at hN
  rw [hW]
  clear hW
  obtain ⟨gm, hg⟩ : ∃ g, w9.heap.size = g := ⟨_, rfl⟩
  have Nm : Hid (gb < gm) := by have h0 := X9.out.lt (g := gb) (x := [4, 0, 0, 0, 0]) (by simp); rw [hg] at h0; exact h0
  rw [hg] at hN
  simp only [hg]
  clear hg
  have X10 : Hid (Env n w n [(3, 6), (3, 3)] [(gm, [m0, m1, m2, m3, m4]), (gh, [h0, h1, h2, h3, h4]), (gb, [4, 0, 0, 0, 0]), (ga, [3, 0, 0, 0, 0])] w10) := hN
  clear hN X9
  have hC := e_add X10.out (by simp) L3.out L4.out
  rw [vs] at hC
  refine hC.mono ?_
  clear hC
  rintro e w11 ⟨rfl, hb⟩
  have X11 : Hid (Env n w n [(3, 6), (3, 3), (3, 1)] [(gm, [m0, m1, m2, m3, m4]), (gh, [h0, h1, h2, h3, h4]), (gb, [4, 0, 0, 0, 0]), (ga, [3, 0, 0, 0, 0])] w11) := hb
  clear hb X10
  obtain ⟨c00, c01, c02, c03, c04⟩ := cells5 (X11.out.row (g := ga) (x := [3, 0, 0, 0, 0]) (by simp))
  have k0 := X11.out.lt (g := ga) (x := [3, 0, 0, 0, 0]) (by simp)
  go_wp2_with (fail)
  clear c00 c01 c02 c03 c04 k0
  obtain ⟨w12, hW⟩ : ∃ W, w11.alloc (.cells #[.int .u64 s0, .int .u64 s1, .int .u64 s2, .int .u64 s3, .int .u64 s4] 47) = W := ⟨_, rfl⟩
  have hN := X11.out.new [s0, s1, s2, s3, s4]
  rw [show w11.alloc (.cells (VI .u64 [s0, s1, s2, s3, s4]) 47) = w12 from hW] at hN
  rw [hW]
  clear hW
  obtain ⟨gs, hg⟩ : ∃ g, w11.heap.size = g := ⟨_, rfl⟩
  have Ns : Hid (gb < gs) := by have h0 := X11.out.lt (g := gb) (x := [4, 0, 0, 0, 0]) (by simp); rw [hg] at h0; exact h0
  rw [hg] at hN
  simp only [hg]
  clear hg
  have X12 : Hid (Env n w n [(3, 6), (3, 3), (3, 1)] [(gs, [s0, s1, s2, s3, s4]), (gm, [m0, m1, m2, m3, m4]), (gh, [h0, h1, h2, h3, h4]), (gb, [4, 0, 0, 0, 0]), (ga, [3, 0, 0, 0, 0])] w12) := hN
  clear hN X11
  have hC := e_square X12.out (by simp) L3.out
  rw [vq] at hC
  refine hC.mono ?_
  clear hC
  rintro e w13 ⟨rfl, hb⟩
  have X13 : Hid (Env n w n [(3, 6), (3, 3), (3, 1), (3, 4)] [(gs, [s0, s1, s2, s3, s4]), (gm, [m0, m1, m2, m3, m4]), (gh, [h0, h1, h2, h3, h4]), (gb, [4, 0, 0, 0, 0]), (ga, [3, 0, 0, 0, 0])] w13) := hb
  clear hb X12
  obtain ⟨c00, c01, c02, c03, c04⟩ := cells5 (X13.out.row (g := ga) (x := [3, 0, 0, 0, 0]) (by simp))
  have k0 := X13.out.lt (g := ga) (x := [3, 0, 0, 0, 0]) (by simp)
  obtain ⟨c10, c11, c12, c13, c14⟩ := cells5 (X13.out.row (g := gb) (x := [4, 0, 0, 0, 0]) (by simp))
  have k1 := X13.out.lt (g := gb) (x := [4, 0, 0, 0, 0]) (by simp)
  go_wp2_with (fail)
  clear c00 c01 c02 c03 c04 k0
  clear c10 c11 c12 c13 c14 k1
  obtain ⟨w14, hW⟩ : ∃ W, w13.alloc (.cells #[.int .u64 q0, .int .u64 q1, .int .u64 q2, .int .u64 q3, .int .u64 q4] 47) = W := ⟨_, rfl⟩
  have hN := X13.out.new [q0, q1, q2, q3, q4]
  rw [show w13.alloc (.cells (VI .u64 [q0, q1, q2, q3, q4]) 47) = w14 from hW] at hN
  rw [hW]
  clear hW
  obtain ⟨gq, hg⟩ : ∃ g, w13.heap.size = g := ⟨_, rfl⟩
  have Nq : Hid (gb < gq) := by have h0 := X13.out.lt (g := gb) (x := [4, 0, 0, 0, 0]) (by simp); rw [hg] at h0; exact h0
  rw [hg] at hN
  simp only [hg]
  clear hg
  have X14 : Hid (Env n w n [(3, 6), (3, 3), (3, 1), (3, 4)] [(gq, [q0, q1, q2, q3, q4]), (gs, [s0, s1, s2, s3, s4]), (gm, [m0, m1, m2, m3, m4]), (gh, [h0, h1, h2, h3, h4]), (gb, [4, 0, 0, 0, 0]), (ga, [3, 0, 0, 0, 0])] w14) := hN
  clear hN X13
  have hC := e_sub X14.out (by simp) L4.out L3.out
  rw [vd] at hC
  refine hC.mono ?_
  clear hC
  rintro e w15 ⟨rfl, hb⟩
  have X15 : Hid (Env n w n [(3, 6), (3, 3), (3, 1), (3, 4), (3, 2)] [(gq, [q0, q1, q2, q3, q4]), (gs, [s0, s1, s2, s3, s4]), (gm, [m0, m1, m2, m3, m4]), (gh, [h0, h1, h2, h3, h4]), (gb, [4, 0, 0, 0, 0]), (ga, [3, 0, 0, 0, 0])] w15) := hb
  clear hb X14
  obtain ⟨c00, c01, c02, c03, c04⟩ := cells5 (X15.out.row (g := gh) (x := [h0, h1, h2, h3, h4]) (by simp))
  have k0 := X15.out.lt (g := gh) (x := [h0, h1, h2, h3, h4]) (by simp)
  go_wp2_with (fail)
  clear c00 c01 c02 c03 c04 k0
  obtain ⟨w16, hW⟩ : ∃ W, w15.alloc (.cells #[.int .u64 d0, .int .u64 d1, .int .u64 d2, .int .u64 d3, .int .u64 d4] 47) = W := ⟨_, rfl⟩
  have hN := X15.out.new [d0, d1, d2, d3, d4]
  rw [show w15.alloc (.cells (VI .u64 [d0, d1, d2, d3, d4]) 47) = w16 from hW] at hN
  rw [hW]
  clear hW
  obtain ⟨gd, hg⟩ : ∃ g, w15.heap.size = g := ⟨_, rfl⟩
  have Nd : Hid (gb < gd) := by have h0 := X15.out.lt (g := gb) (x := [4, 0, 0, 0, 0]) (by simp); rw [hg] at h0; exact h0
  rw [hg] at hN
  simp only [hg]
  clear hg
  have X16 : Hid (Env n w n [(3, 6), (3, 3), (3, 1), (3, 4), (3, 2)] [(gd, [d0, d1, d2, d3, d4]), (gq, [q0, q1, q2, q3, q4]), (gs, [s0, s1, s2, s3, s4]), (gm, [m0, m1, m2, m3, m4]), (gh, [h0, h1, h2, h3, h4]), (gb, [4, 0, 0, 0, 0]), (ga, [3, 0, 0, 0, 0])] w16) := hN
  clear hN X15
  have hC := e_scale X16.out (by simp) Lh.out 20 (by decide) (by decide)
  rw [vt] at hC
  refine hC.mono ?_
  clear hC
  rintro e w17 ⟨rfl, hb⟩
  have X17 : Hid (Env n w n [(3, 6), (3, 3), (3, 1), (3, 4), (3, 2), (3, 5)] [(gd, [d0, d1, d2, d3, d4]), (gq, [q0, q1, q2, q3, q4]), (gs, [s0, s1, s2, s3, s4]), (gm, [m0, m1, m2, m3, m4]), (gh, [h0, h1, h2, h3, h4]), (gb, [4, 0, 0, 0, 0]), (ga, [3, 0, 0, 0, 0])] w17) := hb
  clear hb X16
  go_wp2_with (fail)
  obtain ⟨w18, hW⟩ : ∃ W, w17.alloc (.cells #[.int .u64 t0, .int .u64 t1, .int .u64 t2, .int .u64 t3, .int .u64 t4] 47) = W := ⟨_, rfl⟩
  have hN := X17.out.new [t0, t1, t2, t3, t4]
  rw [show w17.alloc (.cells (VI .u64 [t0, t1, t2, t3, t4]) 47) = w18 from hW] at hN
  rw [hW]
  clear hW
  obtain ⟨gt, hg⟩ : ∃ g, w17.heap.size = g := ⟨_, rfl⟩
  have Nt : Hid (gb < gt) := by have h0 := X17.out.lt (g := gb) (x := [4, 0, 0, 0, 0]) (by simp); rw [hg] at h0; exact h0
  rw [hg] at hN
  simp only [hg]
  clear hg
  have X18 : Hid (Env n w n [(3, 6), (3, 3), (3, 1), (3, 4), (3, 2), (3, 5)] [(gt, [t0, t1, t2, t3, t4]), (gd, [d0, d1, d2, d3, d4]), (gq, [q0, q1, q2, q3, q4]), (gs, [s0, s1, s2, s3, s4]), (gm, [m0, m1, m2, m3, m4]), (gh, [h0, h1, h2, h3, h4]), (gb, [4, 0, 0, 0, 0]), (ga, [3, 0, 0, 0, 0])] w18) := hN
  clear hN X17
  have hS : Env n w n _ ((ga, [3, 0, 0, 0, 0]) :: (gb, [4, 0, 0, 0, 0]) :: [(gt, [t0, t1, t2, t3, t4]), (gd, [d0, d1, d2, d3, d4]), (gq, [q0, q1, q2, q3, q4]), (gs, [s0, s1, s2, s3, s4]), (gm, [m0, m1, m2, m3, m4]), (gh, [h0, h1, h2, h3, h4])]) w18 := X18.out.sub (by simp)
  have HAB : ga ≠ gb := by have := Nb.out; omega
  have HRX : ∀ p ∈ ([(gt, [t0, t1, t2, t3, t4]), (gd, [d0, d1, d2, d3, d4]), (gq, [q0, q1, q2, q3, q4]), (gs, [s0, s1, s2, s3, s4]), (gm, [m0, m1, m2, m3, m4]), (gh, [h0, h1, h2, h3, h4])] : List (Nat × List Int)), p.1 ≠ ga ∧ p.1 ≠ gb := by
    have := Nb.out; have := Nh.out; have := Nm.out; have := Ns.out; have := Nq.out; have := Nd.out; have := Nt.out
    simp only [List.mem_cons, List.not_mem_nil, or_false, forall_eq_or_imp, forall_eq]; omega
  refine (e_swap hS (by simp) L3.out L4.out HAB HRX 1 (by decide) (by decide)).mono ?_
  rintro e w19 ⟨rfl, hb⟩
  have Y0 : Hid (Env n w n [(3, 6), (3, 3), (3, 1), (3, 4), (3, 2), (3, 5), (3, 7)] [(ga, [4, 0, 0, 0, 0]), (gb, [3, 0, 0, 0, 0]), (gt, [t0, t1, t2, t3, t4]), (gd, [d0, d1, d2, d3, d4]), (gq, [q0, q1, q2, q3, q4]), (gs, [s0, s1, s2, s3, s4]), (gm, [m0, m1, m2, m3, m4]), (gh, [h0, h1, h2, h3, h4])] w19) := hb
  clear hb hS HAB HRX X18
  obtain ⟨c0, c1, c2, c3, c4⟩ := cells5 (Y0.out.row (g := gm) (x := [m0, m1, m2, m3, m4]) (by simp))
  go_wp2_with (fail)
  refine (Cm.out _).mono ?_
  rintro e z0 ⟨rfl, hb⟩
  have Y1 : Hid (Env n w n [(3, 6), (3, 3), (3, 1), (3, 4), (3, 2), (3, 5), (3, 7)] [(ga, [4, 0, 0, 0, 0]), (gb, [3, 0, 0, 0, 0]), (gt, [t0, t1, t2, t3, t4]), (gd, [d0, d1, d2, d3, d4]), (gq, [q0, q1, q2, q3, q4]), (gs, [s0, s1, s2, s3, s4]), (gm, [m0, m1, m2, m3, m4]), (gh, [h0, h1, h2, h3, h4])] z0) := Y0.out.below hb
  clear hb Y0 c0 c1 c2 c3 c4
  obtain ⟨c0, c1, c2, c3, c4⟩ := cells5 (Y1.out.row (g := gs) (x := [s0, s1, s2, s3, s4]) (by simp))
  go_wp2_with (fail)
  refine (Cs.out _).mono ?_
  rintro e z1 ⟨rfl, hb⟩
  have Y2 : Hid (Env n w n [(3, 6), (3, 3), (3, 1), (3, 4), (3, 2), (3, 5), (3, 7)] [(ga, [4, 0, 0, 0, 0]), (gb, [3, 0, 0, 0, 0]), (gt, [t0, t1, t2, t3, t4]), (gd, [d0, d1, d2, d3, d4]), (gq, [q0, q1, q2, q3, q4]), (gs, [s0, s1, s2, s3, s4]), (gm, [m0, m1, m2, m3, m4]), (gh, [h0, h1, h2, h3, h4])] z1) := Y1.out.below hb
  clear hb Y1 c0 c1 c2 c3 c4
  obtain ⟨c0, c1, c2, c3, c4⟩ := cells5 (Y2.out.row (g := gq) (x := [q0, q1, q2, q3, q4]) (by simp))
  go_wp2_with (fail)
  refine (Cq.out _).mono ?_
  rintro e z2 ⟨rfl, hb⟩
  have Y3 : Hid (Env n w n [(3, 6), (3, 3), (3, 1), (3, 4), (3, 2), (3, 5), (3, 7)] [(ga, [4, 0, 0, 0, 0]), (gb, [3, 0, 0, 0, 0]), (gt, [t0, t1, t2, t3, t4]), (gd, [d0, d1, d2, d3, d4]), (gq, [q0, q1, q2, q3, q4]), (gs, [s0, s1, s2, s3, s4]), (gm, [m0, m1, m2, m3, m4]), (gh, [h0, h1, h2, h3, h4])] z2) := Y2.out.below hb
  clear hb Y2 c0 c1 c2 c3 c4
  obtain ⟨c0, c1, c2, c3, c4⟩ := cells5 (Y3.out.row (g := gd) (x := [d0, d1, d2, d3, d4]) (by simp))
  go_wp2_with (fail)
  refine (Cd.out _).mono ?_
  rintro e z3 ⟨rfl, hb⟩
  have Y4 : Hid (Env n w n [(3, 6), (3, 3), (3, 1), (3, 4), (3, 2), (3, 5), (3, 7)] [(ga, [4, 0, 0, 0, 0]), (gb, [3, 0, 0, 0, 0]), (gt, [t0, t1, t2, t3, t4]), (gd, [d0, d1, d2, d3, d4]), (gq, [q0, q1, q2, q3, q4]), (gs, [s0, s1, s2, s3, s4]), (gm, [m0, m1, m2, m3, m4]), (gh, [h0, h1, h2, h3, h4])] z3) := Y3.out.below hb
  clear hb Y3 c0 c1 c2 c3 c4
  obtain ⟨c0, c1, c2, c3, c4⟩ := cells5 (Y4.out.row (g := gt) (x := [t0, t1, t2, t3, t4]) (by simp))
  go_wp2_with (fail)
  refine (Ct.out _).mono ?_
  rintro e z4 ⟨rfl, hb⟩
  have Y5 : Hid (Env n w n [(3, 6), (3, 3), (3, 1), (3, 4), (3, 2), (3, 5), (3, 7)] [(ga, [4, 0, 0, 0, 0]), (gb, [3, 0, 0, 0, 0]), (gt, [t0, t1, t2, t3, t4]), (gd, [d0, d1, d2, d3, d4]), (gq, [q0, q1, q2, q3, q4]), (gs, [s0, s1, s2, s3, s4]), (gm, [m0, m1, m2, m3, m4]), (gh, [h0, h1, h2, h3, h4])] z4) := Y4.out.below hb
  clear hb Y4 c0 c1 c2 c3 c4
  obtain ⟨c0, c1, c2, c3, c4⟩ := cells5 (Y5.out.row (g := ga) (x := [4, 0, 0, 0, 0]) (by simp))
  go_wp2_with (fail)
  refine (C4.out _).mono ?_
  rintro e z5 ⟨rfl, hb⟩
  have Y6 : Hid (Env n w n [(3, 6), (3, 3), (3, 1), (3, 4), (3, 2), (3, 5), (3, 7)] [(ga, [4, 0, 0, 0, 0]), (gb, [3, 0, 0, 0, 0]), (gt, [t0, t1, t2, t3, t4]), (gd, [d0, d1, d2, d3, d4]), (gq, [q0, q1, q2, q3, q4]), (gs, [s0, s1, s2, s3, s4]), (gm, [m0, m1, m2, m3, m4]), (gh, [h0, h1, h2, h3, h4])] z5) := Y5.out.below hb
  clear hb Y5 c0 c1 c2 c3 c4
  obtain ⟨c0, c1, c2, c3, c4⟩ := cells5 (Y6.out.row (g := gb) (x := [3, 0, 0, 0, 0]) (by simp))
  go_wp2_with (fail)
  refine (C3.out _).mono ?_
  rintro e z6 ⟨rfl, hb⟩
  have Y7 : Hid (Env n w n [(3, 6), (3, 3), (3, 1), (3, 4), (3, 2), (3, 5), (3, 7)] [(ga, [4, 0, 0, 0, 0]), (gb, [3, 0, 0, 0, 0]), (gt, [t0, t1, t2, t3, t4]), (gd, [d0, d1, d2, d3, d4]), (gq, [q0, q1, q2, q3, q4]), (gs, [s0, s1, s2, s3, s4]), (gm, [m0, m1, m2, m3, m4]), (gh, [h0, h1, h2, h3, h4])] z6) := Y6.out.below hb
  clear hb Y6 c0 c1 c2 c3 c4
  go_wp2_with (fail)
  refine (e_total Y7.out).mono ?_
  rintro e z7 ⟨rfl, hz⟩
  obtain rfl := hz
  go_wp2
  go_ret
  exact ⟨rfl, hn ▸ Y7.out.old⟩
end Go.Proofs.Ytacofgmnmofkpaa
namespace Go.Proofs.Ytacofgmnmofkpaa
set_option linter.unusedSimpArgs false
open Go.ChangeShapes Go.WideShapes Go.ChangeAt Go.RowKit Go.Pin Go.Fld
theorem wp_region_quiet_in {P : Program} {C : World → Prop} {id : Nat} {Q : Exit → Act → World → Prop} {a : Act} {w : World} {l : List Oper} (hm : P.follows .mixedOrders = true) (hB : Region.lexB .any l.toArray = true) (hC : C w.drew)
    (h : wpQuiet P l.toArray C (fun a' => ∀ w', C w' → Q .normal a' w') l a) : (Code.region id l.toArray true).wp P Q a w :=
  wp_region_quiet (C := C) hm hB hC (by simpa using h)
theorem if_pos_mpr {c : Prop} [Decidable c] {a b : Prop} (hc : c) (h : a) : if c then a else b := by rw [if_pos hc]; exact h
theorem alloc2r (w : World) (a b : List Int) : rowAt ((w.alloc (.cells (VI .u64 a) 47)).alloc (.cells (VI .u64 b) 47)) w.heap.size a 47 ∧
    rowAt ((w.alloc (.cells (VI .u64 a) 47)).alloc (.cells (VI .u64 b) 47)) (w.heap.size + 1) b 47 ∧
    Below w.heap.size w ((w.alloc (.cells (VI .u64 a) 47)).alloc (.cells (VI .u64 b) 47)) := by
  refine ⟨?_, ?_, ((Below.refl _ _).alloc (Nat.le_refl _) _).alloc (by simp) _⟩
  all_goals simp only [rowAt, heap_alloc_any, size_alloc]
  · rw [if_neg (by omega), if_pos trivial]
  · rw [if_pos trivial]
set_option maxRecDepth 100000 in
set_option maxHeartbeats 1000000 in
theorem same_any (a b : List Int) (ha : Lim a) (hb : Lim b) (w : World) :
    Calls Try.prog 20 #[.agg (VI .u64 a), .agg (VI .u64 b)] w fun e w' => e = .returned (.bool (decide (num a = num b))) ∧ Below w.heap.size w w' := by
  obtain ⟨r1, r2, hbw⟩ := alloc2r w a b
  obtain ⟨W, hW⟩ : ∃ W, (w.alloc (.cells (VI .u64 a) 47)).alloc (.cells (VI .u64 b) 47) = W := ⟨_, rfl⟩
  rw [hW] at r1 r2 hbw
  have q : ∀ w, (Op.equalIn 10000 57 (.agg (VI .u8 (bts (num a)))) (.agg (VI .u8 (bts (num b))))).run Try.prog w = .ok (decide (num a = num b)) w := fun w => by
    have := run_equalIn_row (P := Try.prog) w 9998 57 5 .u8 32 (bts (num a)) (bts (num b)) (by simp) (by simp) Try.underlying57 Try.underlying5 size5
    rw [bts_beq _ _ (num_lt a) (num_lt b)] at this
    exact this
  have CA : Hid (∀ w, Calls Try.prog 22 #[.agg (VI .u64 a)] w fun e w' => e = .returned (.agg (VI .u8 (bts (num a)))) ∧ Below w.heap.size w w') := fun w => enc_any a ha w
  have CB : Hid (∀ w, Calls Try.prog 22 #[.agg (VI .u64 b)] w fun e w' => e = .returned (.agg (VI .u8 (bts (num b)))) ∧ Below w.heap.size w w') := fun w => enc_any b hb w
  generalize decide (num a = num b) = t at *
  obtain ⟨a0, a1, a2, a3, a4, rfl⟩ := five ha.len
  obtain ⟨b0, b1, b2, b3, b4, rfl⟩ := five hb.len
  have R1 : Hid (rowAt W w.heap.size [a0, a1, a2, a3, a4] 47) := r1
  have R2 : Hid (rowAt W (w.heap.size + 1) [b0, b1, b2, b3, b4] 47) := r2
  have HB : Hid (Below w.heap.size w W) := hbw
  generalize bts (num [a0, a1, a2, a3, a4]) = ka at *
  generalize bts (num [b0, b1, b2, b3, b4]) = kb at *
  clear r1 r2 hbw ha hb
  go_enter Try.func20, Try.ntmps20
  go_wp2
  refine wp_region_quiet_in (C := fun Y => Below W.heap.size W Y) (by kernel_rfl) (by kernel_rfl) ((Below.refl _ _).drew) ?_
  refine wpQuiet_step (fun K hK => ?_)
  refine if_pos_mpr (by kernel_rfl) ⟨.agg #[.int .u64 a0, .int .u64 a1, .int .u64 a2, .int .u64 a3, .int .u64 a4], fun Y hY => ?_, hK _ ?_⟩
  · obtain ⟨c0, c1, c2, c3, c4⟩ := cells5 (row_below R1.out hY)
    go_simp
  clear hK K
  try simp only [Act.put, List.setIfInBounds_toArray, List.set_cons_zero, List.set_cons_succ]
  refine wpQuiet_step (fun K hK => ?_)
  refine if_pos_mpr (by kernel_rfl) ⟨.agg (VI .u8 ka), fun Y hY => ?_, hK _ ?_⟩
  · go_simp
    exact (CA.out Y).mono fun e w' hh => ⟨hh.1, hY.trans (hh.2.mono hY.size)⟩
  clear hK K
  try simp only [Act.put, List.setIfInBounds_toArray, List.set_cons_zero, List.set_cons_succ]
  refine wpQuiet_step (fun K hK => ?_)
  refine if_pos_mpr (by kernel_rfl) ⟨.agg #[.int .u64 b0, .int .u64 b1, .int .u64 b2, .int .u64 b3, .int .u64 b4], fun Y hY => ?_, hK _ ?_⟩
  · obtain ⟨c0, c1, c2, c3, c4⟩ := cells5 (row_below R2.out hY)
    go_simp
  clear hK K
  try simp only [Act.put, List.setIfInBounds_toArray, List.set_cons_zero, List.set_cons_succ]
  refine wpQuiet_step (fun K hK => ?_)
  refine if_pos_mpr (by kernel_rfl) ⟨.agg (VI .u8 kb), fun Y hY => ?_, hK _ ?_⟩
  · go_simp
    exact (CB.out Y).mono fun e w' hh => ⟨hh.1, hY.trans (hh.2.mono hY.size)⟩
  clear hK K
  try simp only [Act.put, List.setIfInBounds_toArray, List.set_cons_zero, List.set_cons_succ]
  refine wpQuiet_step (fun K hK => ?_)
  go_simp
  first | refine hK _ ?_ | refine ⟨_, fun _ _ => rfl, hK _ ?_⟩
  clear hK K
  refine wpQuiet_step (fun K hK => ?_)
  go_simp
  first | refine hK _ ?_ | refine ⟨_, fun _ _ => rfl, hK _ ?_⟩
  clear hK K
  refine wpQuiet_nil ?_
  intro w' hw'
  go_wp2
  go_ret
  exact ⟨rfl, HB.out.trans (hw'.mono HB.out.size)⟩
theorem add_f {a0 a1 a2 a3 a4 b0 b1 b2 b3 b4 : Int} (ha : Lim [a0, a1, a2, a3, a4]) (hb : Lim [b0, b1, b2, b3, b4]) : ∃ x0 x1 x2 x3 x4, Lim [x0, x1, x2, x3, x4] ∧ num [x0, x1, x2, x3, x4] = (num [a0, a1, a2, a3, a4] + num [b0, b1, b2, b3, b4]) % P ∧ Hid (∀ w, Calls Try.prog 34 #[.pointer none, .agg #[.int .u64 a0, .int .u64 a1, .int .u64 a2, .int .u64 a3, .int .u64 a4], .agg #[.int .u64 b0, .int .u64 b1, .int .u64 b2, .int .u64 b3, .int .u64 b4]] w fun e w' => e = .returned (.agg #[.int .u64 x0, .int .u64 x1, .int .u64 x2, .int .u64 x3, .int .u64 x4]) ∧ Below w.heap.size w w') := by
  have hl := add_lim ha hb
  have hn := num_add ha hb
  have hc := fun w => (add_any (.pointer none) [a0, a1, a2, a3, a4] [b0, b1, b2, b3, b4] ha hb w _ (opc_nil _ w)).mono fun e w' hh => (⟨hh.1, hh.2.nil⟩ : _ ∧ Below w.heap.size w w')
  obtain ⟨x0, x1, x2, x3, x4, e⟩ := five hl.len
  rw [e] at hl hn hc
  exact ⟨x0, x1, x2, x3, x4, hl, hn, hc⟩
theorem sub_f {a0 a1 a2 a3 a4 b0 b1 b2 b3 b4 : Int} (ha : Lim [a0, a1, a2, a3, a4]) (hb : Lim [b0, b1, b2, b3, b4]) : ∃ x0 x1 x2 x3 x4, Lim [x0, x1, x2, x3, x4] ∧ num [x0, x1, x2, x3, x4] = (num [a0, a1, a2, a3, a4] + (P - num [b0, b1, b2, b3, b4])) % P ∧ Hid (∀ w, Calls Try.prog 37 #[.pointer none, .agg #[.int .u64 a0, .int .u64 a1, .int .u64 a2, .int .u64 a3, .int .u64 a4], .agg #[.int .u64 b0, .int .u64 b1, .int .u64 b2, .int .u64 b3, .int .u64 b4]] w fun e w' => e = .returned (.agg #[.int .u64 x0, .int .u64 x1, .int .u64 x2, .int .u64 x3, .int .u64 x4]) ∧ Below w.heap.size w w') := by
  have hl := subs_lim ha hb
  have hn := num_sub ha hb
  have hc := fun w => (sub_any (.pointer none) [a0, a1, a2, a3, a4] [b0, b1, b2, b3, b4] ha hb w _ (opc_nil _ w)).mono fun e w' hh => (⟨hh.1, hh.2.nil⟩ : _ ∧ Below w.heap.size w w')
  obtain ⟨x0, x1, x2, x3, x4, e⟩ := five hl.len
  rw [e] at hl hn hc
  exact ⟨x0, x1, x2, x3, x4, hl, hn, hc⟩
theorem mul_f {a0 a1 a2 a3 a4 b0 b1 b2 b3 b4 : Int} (ha : Lim [a0, a1, a2, a3, a4]) (hb : Lim [b0, b1, b2, b3, b4]) : ∃ x0 x1 x2 x3 x4, Lim [x0, x1, x2, x3, x4] ∧ num [x0, x1, x2, x3, x4] = num [a0, a1, a2, a3, a4] * num [b0, b1, b2, b3, b4] % P ∧ Hid (∀ w, Calls Try.prog 39 #[.pointer none, .agg #[.int .u64 a0, .int .u64 a1, .int .u64 a2, .int .u64 a3, .int .u64 a4], .agg #[.int .u64 b0, .int .u64 b1, .int .u64 b2, .int .u64 b3, .int .u64 b4]] w fun e w' => e = .returned (.agg #[.int .u64 x0, .int .u64 x1, .int .u64 x2, .int .u64 x3, .int .u64 x4]) ∧ Below w.heap.size w w') := by
  have hl := prod_lim ha hb
  have hn := num_prod ha hb
  have hc := fun w => (mul_any (.pointer none) [a0, a1, a2, a3, a4] [b0, b1, b2, b3, b4] ha hb w _ (opc_nil _ w)).mono fun e w' hh => (⟨hh.1, hh.2.nil⟩ : _ ∧ Below w.heap.size w w')
  obtain ⟨x0, x1, x2, x3, x4, e⟩ := five hl.len
  rw [e] at hl hn hc
  exact ⟨x0, x1, x2, x3, x4, hl, hn, hc⟩
theorem square_f {a0 a1 a2 a3 a4 : Int} (ha : Lim [a0, a1, a2, a3, a4]) : ∃ x0 x1 x2 x3 x4, Lim [x0, x1, x2, x3, x4] ∧ num [x0, x1, x2, x3, x4] = num [a0, a1, a2, a3, a4] * num [a0, a1, a2, a3, a4] % P ∧ Hid (∀ w, Calls Try.prog 41 #[.pointer none, .agg #[.int .u64 a0, .int .u64 a1, .int .u64 a2, .int .u64 a3, .int .u64 a4]] w fun e w' => e = .returned (.agg #[.int .u64 x0, .int .u64 x1, .int .u64 x2, .int .u64 x3, .int .u64 x4]) ∧ Below w.heap.size w w') := by
  have hl := prod_lim ha ha
  have hn := num_prod ha ha
  have hc := fun w => (square_any (.pointer none) [a0, a1, a2, a3, a4] ha w _ (opc_nil _ w)).mono fun e w' hh => (⟨hh.1, hh.2.nil⟩ : _ ∧ Below w.heap.size w w')
  obtain ⟨x0, x1, x2, x3, x4, e⟩ := five hl.len
  rw [e] at hl hn hc
  exact ⟨x0, x1, x2, x3, x4, hl, hn, hc⟩
theorem invert_f {a0 a1 a2 a3 a4 : Int} (ha : Lim [a0, a1, a2, a3, a4]) : ∃ x0 x1 x2 x3 x4, Lim [x0, x1, x2, x3, x4] ∧ num [x0, x1, x2, x3, x4] = qwn (num [a0, a1, a2, a3, a4]) 5 ∧ Hid (∀ w, Calls Try.prog 44 #[.pointer none, .agg #[.int .u64 a0, .int .u64 a1, .int .u64 a2, .int .u64 a3, .int .u64 a4]] w fun e w' => e = .returned (.agg #[.int .u64 x0, .int .u64 x1, .int .u64 x2, .int .u64 x3, .int .u64 x4]) ∧ Below w.heap.size w w') := by
  have hl := qw_lim ha 5
  have hn := num_qw ha 5
  have hc := fun w => (invert_any (.pointer none) [a0, a1, a2, a3, a4] ha w _ (opc_nil _ w)).mono fun e w' hh => (⟨hh.1, hh.2.nil⟩ : _ ∧ Below w.heap.size w w')
  obtain ⟨x0, x1, x2, x3, x4, e⟩ := five hl.len
  rw [e] at hl hn hc
  exact ⟨x0, x1, x2, x3, x4, hl, hn, hc⟩
theorem scale_f {a0 a1 a2 a3 a4 : Int} (ha : Lim [a0, a1, a2, a3, a4]) (n : Nat) (hn' : n < 4294967296) : ∃ x0 x1 x2 x3 x4, Lim [x0, x1, x2, x3, x4] ∧ num [x0, x1, x2, x3, x4] = num [a0, a1, a2, a3, a4] * n % P ∧ Hid (∀ w, Calls Try.prog 42 #[.pointer none, .agg #[.int .u64 a0, .int .u64 a1, .int .u64 a2, .int .u64 a3, .int .u64 a4], .int .u32 (n : Int)] w fun e w' => e = .returned (.agg #[.int .u64 x0, .int .u64 x1, .int .u64 x2, .int .u64 x3, .int .u64 x4]) ∧ Below w.heap.size w w') := by
  have hls : Lim [(n : Int), 0, 0, 0, 0] := lim_small n (by omega) (by omega)
  have hl := prod_lim ha hls
  have hn := num_prod ha hls
  rw [num_small n hn'] at hn
  have hc := fun w => (scale_any (.pointer none) [a0, a1, a2, a3, a4] n (by omega) (by omega) ha w _ (opc_nil _ w)).mono fun e w' hh => (⟨hh.1, hh.2.nil⟩ : _ ∧ Below w.heap.size w w')
  obtain ⟨x0, x1, x2, x3, x4, e⟩ := five hl.len
  rw [e] at hl hn hc
  exact ⟨x0, x1, x2, x3, x4, hl, hn, hc⟩
theorem dec_f {b : List Int} (hb : Key32 b) : ∃ x0 x1 x2 x3 x4, Lim [x0, x1, x2, x3, x4] ∧ num [x0, x1, x2, x3, x4] = nb b % 2 ^ 255 % P ∧ Hid (∀ w, Calls Try.prog 21 #[.agg (VI .u8 b)] w fun e w' => e = .returned (.agg #[.int .u64 x0, .int .u64 x1, .int .u64 x2, .int .u64 x3, .int .u64 x4]) ∧ Below w.heap.size w w') := by
  have hl := dec_lim b
  have hn := num_dec b
  have hc := fun w => decode_any b hb w
  obtain ⟨x0, x1, x2, x3, x4, e⟩ := five hl.len
  rw [e] at hl hn hc
  exact ⟨x0, x1, x2, x3, x4, hl, hn, hc⟩
theorem same_f {a0 a1 a2 a3 a4 b0 b1 b2 b3 b4 : Int} (ha : Lim [a0, a1, a2, a3, a4]) (hb : Lim [b0, b1, b2, b3, b4]) (t : Bool) (h : decide (num [a0, a1, a2, a3, a4] = num [b0, b1, b2, b3, b4]) = t) : Hid (∀ w, Calls Try.prog 20 #[.agg #[.int .u64 a0, .int .u64 a1, .int .u64 a2, .int .u64 a3, .int .u64 a4], .agg #[.int .u64 b0, .int .u64 b1, .int .u64 b2, .int .u64 b3, .int .u64 b4]] w fun e w' => e = .returned (.bool t) ∧ Below w.heap.size w w') := fun w => by
  have := same_any [a0, a1, a2, a3, a4] [b0, b1, b2, b3, b4] ha hb w
  rw [h] at this
  exact this
end Go.Proofs.Ytacofgmnmofkpaa
