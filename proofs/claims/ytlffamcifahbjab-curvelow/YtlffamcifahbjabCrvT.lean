import Derived.Test.YtlffamcifahbjabCrvH
import Derived.Test.YtlffamcifahbjabCrvE
namespace Go.Proofs.Ytlffamcifahbjab
set_option linter.unusedVariables false
set_option linter.unusedSimpArgs false
open Go.ChangeShapes Go.WideShapes Go.ChangeAt Go.RowKit Go.Pin Go.Fld Go.Prm Go.Edw
def fl (q : Lad) : FL (Pq + 1) := ⟨toF q.a, toF q.b, toF q.c, toF q.d⟩
structure Lok (q : Lad) : Prop where
  a : q.a < P
  b : q.b < P
  c : q.c < P
  d : q.d < P
theorem modlt (n : Nat) : n % P < P := Nat.mod_lt _ (by decide)
theorem toF_subm (a b : Nat) : toF (a + (P - b % P)) = toF a - toF b := by rw [toF_sub _ _ (modlt b), toF_mod]
def sb (a b : Nat) : Nat := a + (P - b)
theorem sb_def (a b : Nat) : sb a b = a + (P - b) := rfl
theorem sbm (a b : Nat) : toF (sb a (b % P)) = toF a - toF b := toF_subm a b
theorem sb_of (a b : Nat) (h : b < P) : toF (sb a b) = toF a - toF b := toF_sub a b h
theorem climb_ok (x : Nat) (q : Lad) : Lok (q.climb x) := ⟨modlt _, modlt _, modlt _, modlt _⟩
theorem climbF (x : Nat) (q : Lad) (h : Lok q) : fl (q.climb x) = fstep c0 (toF x) (fl q) := by
  unfold Lad.climb clm fl fstep c0
  simp only [← sb_def]
  simp only [toF_mod, toF_mul, toF_add, sbm, sb_of _ _ h.b, sb_of _ _ h.d]
theorem swap_ok {q : Lad} (h : Lok q) (t : Nat) : Lok (q.swap t) := by
  unfold Lad.swap
  split
  · exact ⟨h.c, h.d, h.a, h.b⟩
  · exact h
theorem fl_swap (q : Lad) (t : Nat) : fl (q.swap t) = (fl q).swap (decide (t % 2 = 1)) := by
  unfold Lad.swap FL.swap
  by_cases h : t % 2 = 1
  · rw [if_pos h, decide_eq_true h, if_pos rfl]; rfl
  · rw [if_neg h, decide_eq_false h, if_neg (by decide)]
theorem swap_swap (q : FL (Pq + 1)) (s g : Nat) : q.swap (decide ((s + g) % 2 = 1)) = (q.swap (decide (s % 2 = 1))).swap (decide (g % 2 = 1)) := by
  unfold FL.swap
  rcases Nat.mod_two_eq_zero_or_one s with hs | hs <;> rcases Nat.mod_two_eq_zero_or_one g with hg | hg <;> simp [Nat.add_mod, hs, hg]
/-- the digits, the highest first -/
def bl (f : Nat → Nat) : Nat → List Bool
  | 0 => []
  | i + 1 => bl f i ++ [decide (f (254 - i) % 2 = 1)]
theorem flad_snoc (X : FP) (g : Bool) : ∀ (l : List Bool) (q : FL (Pq + 1)), flad c0 X q (l ++ [g]) = frnd c0 X g (flad c0 X q l)
  | [], q => rfl
  | h :: l, q => flad_snoc X g l _
theorem bval_snoc (g : Bool) : ∀ (l : List Bool) (n : Nat), bval n (l ++ [g]) = 2 * bval n l + if g then 1 else 0
  | [], n => rfl
  | h :: l, n => bval_snoc g l _
theorem lad_ok (f : Nat → Nat) (x : Nat) (hx : x < P) : ∀ i, Lok (lad f x i)
  | 0 => ⟨by show 1 < P; decide, by show 0 < P; decide, hx, by show 1 < P; decide⟩
  | i + 1 => by
    have := climb_ok x ((lad f x i).swap ((lad f x i).s + f (254 - i)))
    exact ⟨this.a, this.b, this.c, this.d⟩
theorem fl_lad (f : Nat → Nat) (x : Nat) (hx : x < P) : ∀ i, fl ((lad f x i).swap (lad f x i).s) = flad c0 (toF x) ⟨1, 0, toF x, 1⟩ (bl f i)
  | 0 => by
    rw [fl_swap]
    show (FL.mk (toF 1) (toF 0) (toF x) (toF 1)).swap false = _
    rw [toF_one, toF_zero]; rfl
  | i + 1 => by
    have ih := fl_lad f x hx i
    have ho := lad_ok f x hx i
    rw [bl, flad_snoc, ← ih]
    have e : fl ((lad f x (i + 1)).swap (lad f x (i + 1)).s) = (fstep c0 (toF x) (fl ((lad f x i).swap ((lad f x i).s + f (254 - i))))).swap (decide (f (254 - i) % 2 = 1)) := by
      rw [← climbF x _ (swap_ok ho _), fl_swap]
      rfl
    rw [e, fl_swap, swap_swap, fl_swap]
    rfl
theorem lend_f (f : Nat → Nat) (x : Nat) (hx : x < P) : toF (lend (lad f x 255)) = fsh fi c0 (toF x) (bl f 255) := by
  have h := fl_lad f x hx 255
  have ho := swap_ok (lad_ok f x hx 255) (lad f x 255).s
  unfold lend fsh
  rw [← h, toF_mod, toF_mul, toF_inv _ ho.b]
  rfl
theorem bl_cons (f : Nat → Nat) : ∀ i, bl f (i + 1) = decide (f 254 % 2 = 1) :: (bl f (i + 1)).tail
  | 0 => rfl
  | i + 1 => by
    have ih := bl_cons f i
    rw [bl, ih]; rfl
theorem clk_even (k : List Int) (hk : Key32 k) : kbit (clk k) 0 = 0 := by
  have h0 := byte_in hk (i := 0) (by decide)
  have : (clk k).getD 0 0 = k.getD 0 0 - k.getD 0 0 % 8 := by
    unfold clk
    rw [getD_set_ne _ _ _ _ (by decide), getD_set_eq _ _ _ (by rw [hk.len]; decide)]
  unfold kbit
  rw [show 0 / 8 = 0 from rfl, this]
  have e : (k.getD 0 0 - k.getD 0 0 % 8).toNat = 8 * (k.getD 0 0 / 8).toNat := by omega
  rw [e]
  simp; omega
theorem bl_even (k : List Int) (hk : Key32 k) : bval 0 (bl (kbit (clk k)) 255) = 2 * bval 0 (bl (kbit (clk k)) 254) := by
  have h : bl (kbit (clk k)) 255 = bl (kbit (clk k)) 254 ++ [decide (kbit (clk k) (254 - 254) % 2 = 1)] := bl.eq_2 _ _
  rw [h, bval_snoc, Nat.sub_self, clk_even k hk, decide_eq_false (by decide), if_neg (by decide), Nat.add_zero]
theorem ux_lt (u : List Int) : ux u < P := modlt _
theorem ux_bts (n : Nat) (hn : n < P) : ux (bts n) = n := by
  unfold ux
  have h1 : n < 2 ^ 255 := Nat.lt_of_lt_of_le hn (by decide)
  rw [nb_bts n (Nat.lt_of_lt_of_le h1 (by decide)), Nat.mod_eq_of_lt h1, Nat.mod_eq_of_lt hn]
theorem shn_comm (a b u : List Int) (ha : Key32 a) (hb : Key32 b) : shn a (bts (shn b u)) = shn b (bts (shn a u)) := by
  apply eq_of_toF (shn_lt _ _) (shn_lt _ _)
  have e : ∀ k v, toF (shn k v) = fsh fi c0 (toF (ux v)) (bl (kbit (clk k)) 255) := fun k v => lend_f _ _ (ux_lt v)
  rw [e, e, ux_bts _ (shn_lt _ _), ux_bts _ (shn_lt _ _), e, e]
  obtain ⟨D, ee, Q, p, hp, hX⟩ := anyw (toF (ux u))
  rw [← hX]
  have la := bl_even a ha
  have lb := bl_even b hb
  rw [bl_cons _ 254] at la lb
  rw [bl_cons (kbit (clk a)) 254, bl_cons (kbit (clk b)) 254]
  exact fsh_comm Q fi_zero hp _ _ _ _ _ _ la lb
end Go.Proofs.Ytlffamcifahbjab
