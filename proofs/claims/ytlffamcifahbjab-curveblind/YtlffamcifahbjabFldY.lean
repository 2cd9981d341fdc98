import Derived.Test.YtlffamcifahbjabFldX
namespace Go.Proofs.Ytlffamcifahbjab
set_option linter.unusedSimpArgs false
open Go.ChangeShapes Go.WideShapes Go.ChangeAt Go.RowKit Go.Pin Go.Fld
theorem num_prod {a b : List Int} (ha : Lim a) (hb : Lim b) : num (prod a b) = num a * num b % P := by
  apply num_of
  rw [(prod_el ha hb).2, Int.natCast_mul, num_cast, num_cast, ← Int.mul_emod]
theorem V_zip (a b : List Int) (h : a.length = b.length) : V (List.zipWith (· + ·) a b) = V a + V b := by
  induction a generalizing b with
  | nil => cases b with | nil => rfl | cons _ _ => simp at h
  | cons x a ih =>
    cases b with
    | nil => simp at h
    | cons y b =>
      have := ih b (by simpa using h)
      simp only [List.zipWith_cons_cons, V_cons, this]
      omega
theorem V_zips (a b : List Int) (h : a.length = b.length) : V (List.zipWith (· - ·) a b) = V a - V b := by
  induction a generalizing b with
  | nil => cases b with | nil => rfl | cons _ _ => simp at h
  | cons x a ih =>
    cases b with
    | nil => simp at h
    | cons y b =>
      have := ih b (by simpa using h)
      simp only [List.zipWith_cons_cons, V_cons, this]
      omega
theorem add_lim {a b : List Int} (ha : Lim a) (hb : Lim b) : Lim (stl (List.zipWith (· + ·) a b)) := (stl_lim _ (zip_lim ha hb).1 (zip_lim ha hb).2).1
theorem subs_lim {a b : List Int} (ha : Lim a) (hb : Lim b) : Lim (stl (subL a b)) := (stl_lim _ (sub_lim ha hb).1 (sub_lim ha hb).2).1
theorem num_add {a b : List Int} (ha : Lim a) (hb : Lim b) : num (stl (List.zipWith (· + ·) a b)) = (num a + num b) % P := by
  apply num_of
  rw [(stl_lim _ (zip_lim ha hb).1 (zip_lim ha hb).2).2.1, V_zip _ _ (ha.len.trans hb.len.symm), Int.natCast_add, num_cast, num_cast, ← Int.add_emod]
theorem num_sub {a b : List Int} (ha : Lim a) (hb : Lim b) : num (stl (subL a b)) = (num a + (P - num b)) % P := by
  apply num_of
  have hl := num_lt b
  have e1 : V (subL a b) = V a + (V four - V b) := by
    rw [subL, V_zip _ _ (by simp [ha.len, hb.len, four]), V_zips _ _ (by simp [hb.len, four])]
  have e4 : V four = 4 * 57896044618658097711785492504343953926634992332820282019728792003956564819949 := by decide
  have ca := num_cast a
  have cb := num_cast b
  have hP : (P : Int) = 57896044618658097711785492504343953926634992332820282019728792003956564819949 := rfl
  rw [(stl_lim _ (sub_lim ha hb).1 (sub_lim ha hb).2).2.1, e1, e4, Int.natCast_add, Int.ofNat_sub (by omega), hP]
  omega
theorem num_dec (b : List Int) : num (dec b) = nb b % 2 ^ 255 % P := by
  apply num_of
  rw [dec_V]
/-- the same with numbers alone -/
def sqn (x f : Nat) : Nat := x * x % P * f % P
def pwn (a : Nat) : Nat → Nat
  | 0 => a
  | k + 1 => sqn (pwn a k) a
def fan (a k : Nat) : Nat := if k = 0 ∨ k = 2 then 1 else a
def qwn (a : Nat) : Nat → Nat
  | 0 => pwn a 249
  | k + 1 => sqn (qwn a k) (fan a k)
theorem num_sqm {x f : List Int} (hx : Lim x) (hf : Lim f) : num (sqm x f) = sqn (num x) (num f) := by
  rw [sqm, num_prod (prod_lim hx hx) hf, num_prod hx hx]; rfl
theorem num_pw {a : List Int} (h : Lim a) : ∀ k, num (pw a k) = pwn (num a) k
  | 0 => rfl
  | k + 1 => by rw [pw, num_sqm (pw_lim h k) h, num_pw h k]; rfl
theorem num_fac (a : List Int) (k : Nat) : num (fac a k) = fan (num a) k := by
  unfold fac fan
  split
  · decide
  · rfl
theorem num_qw {a : List Int} (h : Lim a) : ∀ k, num (qw a k) = qwn (num a) k
  | 0 => num_pw h 249
  | k + 1 => by rw [qw, num_sqm (qw_lim h k) (fac_lim h k), num_qw h k, num_fac]; rfl
theorem inv_two : qwn 2 5 * 20 % P = 10 := by decide +kernel
theorem num_small (n : Nat) (hn : n < 4294967296) : num [(n : Int), 0, 0, 0, 0] = n := by
  have := num_of (a := [(n : Int), 0, 0, 0, 0]) (n := n) (by simp only [V_cons, V_nil]; omega)
  rw [this]
  exact Nat.mod_eq_of_lt (Nat.lt_trans hn (by decide))
end Go.Proofs.Ytlffamcifahbjab
