import Derived.Test.YtgfamcadgahiiabPrmB
namespace Go.Prm
open Go
/-- bytes -/
abbrev Byt (l : List Int) : Prop := ∀ x ∈ l, 0 ≤ x ∧ x < 256
/-- a block's bytes, its end behind them, filled up -/
def blkOf (x : List Int) : List Int := x ++ 1 :: List.replicate (16 - x.length) 0
/-- a block comes to a sum -/
def wth (r s b : List Int) : List Int := prod (stl (List.zipWith (· + ·) s (blk b))) r
def accN (r : List Int) : Nat → List Int → List Int → List Int
  | 0, s, _ => s
  | n + 1, s, D => accN r n (wth r s (blkOf (D.take 16))) (D.drop 16)
/-- the whole blocks of D -/
def acc (r s D : List Int) : List Int := accN r (D.length / 16) s D
/-- what is behind them -/
def rst (D : List Int) : List Int := D.drop (16 * (D.length / 16))
/-- all blocks of D -/
def facc (r s D : List Int) : List Int := accN r ((D.length + 15) / 16) s D
theorem acc_short (r s : List Int) {D : List Int} (h : D.length < 16) : acc r s D = s ∧ rst D = D := by
  have e : D.length / 16 = 0 := by omega
  unfold acc rst
  rw [e]
  exact ⟨rfl, rfl⟩
theorem acc_step (r s : List Int) {D : List Int} (h : 16 ≤ D.length) : acc r s D = acc r (wth r s (blkOf (D.take 16))) (D.drop 16) ∧ rst D = rst (D.drop 16) := by
  have e : D.length / 16 = (D.drop 16).length / 16 + 1 := by rw [List.length_drop]; omega
  unfold acc rst
  rw [e]
  refine ⟨rfl, ?_⟩
  rw [List.drop_drop]
  congr 1
  omega
theorem facc_nil (r s : List Int) : facc r s [] = s := rfl
theorem facc_step (r s : List Int) {D : List Int} (h : 0 < D.length) : facc r s D = facc r (wth r s (blkOf (D.take 16))) (D.drop 16) := by
  have e : (D.length + 15) / 16 = ((D.drop 16).length + 15) / 16 + 1 := by rw [List.length_drop]; omega
  unfold facc
  rw [e]
  rfl
theorem rst_len (D : List Int) : (rst D).length = D.length % 16 := by
  unfold rst
  rw [List.length_drop]
  omega
theorem acc_app (r : List Int) : ∀ (n : Nat) (D s E : List Int), D.length ≤ n → acc r s (D ++ E) = acc r (acc r s D) (rst D ++ E) ∧ rst (D ++ E) = rst (rst D ++ E)
  | 0, D, s, E, h => by
    have : D = [] := List.length_eq_zero_iff.1 (by omega)
    subst this
    exact ⟨rfl, rfl⟩
  | n + 1, D, s, E, h => by
    by_cases hd : D.length < 16
    · rw [(acc_short r s hd).1, (acc_short r s hd).2]
      exact ⟨rfl, rfl⟩
    · have hd' : 16 ≤ D.length := by omega
      have hde : 16 ≤ (D ++ E).length := by rw [List.length_append]; omega
      have e1 : (D ++ E).take 16 = D.take 16 := by rw [List.take_append_of_le_length hd']
      have e2 : (D ++ E).drop 16 = D.drop 16 ++ E := by rw [List.drop_append_of_le_length hd']
      rw [(acc_step r s hde).1, (acc_step r s hde).2, e1, e2, (acc_step r s hd').1, (acc_step r s hd').2]
      exact acc_app r n (D.drop 16) _ E (by rw [List.length_drop]; omega)
theorem facc_eq (r : List Int) : ∀ (n : Nat) (D s : List Int), D.length ≤ n → facc r s D = if (rst D).length = 0 then acc r s D else wth r (acc r s D) (blkOf (rst D))
  | 0, D, s, h => by
    have : D = [] := List.length_eq_zero_iff.1 (by omega)
    subst this
    rfl
  | n + 1, D, s, h => by
    by_cases hd : D.length < 16
    · rw [(acc_short r s hd).1, (acc_short r s hd).2]
      by_cases h0 : D.length = 0
      · rw [if_pos h0]
        have : D = [] := List.length_eq_zero_iff.1 h0
        subst this
        rfl
      · rw [if_neg h0, facc_step r s (by omega), List.drop_eq_nil_of_le (by omega), List.take_of_length_le (by omega)]
        rfl
    · have hd' : 16 ≤ D.length := by omega
      rw [facc_step r s (by omega), (acc_step r s hd').1, (acc_step r s hd').2]
      exact facc_eq r n (D.drop 16) _ (by rw [List.length_drop]; omega)
theorem blkOf_len {x : List Int} (h : x.length ≤ 16) : (blkOf x).length = 17 := by simp [blkOf]; omega
theorem blkOf_byt {x : List Int} (h : Byt x) : Byt (blkOf x) := fun y hy => by
  simp only [blkOf, List.mem_append, List.mem_cons, List.mem_replicate] at hy
  rcases hy with hy | rfl | ⟨_, rfl⟩
  · exact h y hy
  · decide
  · decide
theorem blkOf_full {x : List Int} (h : x.length = 16) : blkOf x = x ++ [1] := by simp [blkOf, h]
theorem wth_lim {r s b : List Int} (hr : Lim r) (hs : Lim s) (hb : Byt b) : Lim (wth r s b) := prod_lim (add_lim hs (blk_lim hb)) hr
theorem num_wth {r s b : List Int} (hr : Lim r) (hs : Lim s) (hb : Byt b) : num (wth r s b) = (num s + nb b % P) % P * num r % P := by
  unfold wth
  rw [num_prod (add_lim hs (blk_lim hb)) hr, num_add hs (blk_lim hb), num_blk hb]
theorem accN_lim {r : List Int} (hr : Lim r) : ∀ (n : Nat) (s D : List Int), Lim s → Byt D → Lim (accN r n s D)
  | 0, _, _, hs, _ => hs
  | n + 1, _, _, hs, hD => accN_lim hr n _ _ (wth_lim hr hs (blkOf_byt (fun x hx => hD x (List.mem_of_mem_take hx)))) (fun x hx => hD x (List.mem_of_mem_drop hx))
theorem acc_lim {r s D : List Int} (hr : Lim r) (hs : Lim s) (hD : Byt D) : Lim (acc r s D) := accN_lim hr _ _ _ hs hD
theorem facc_lim {r s D : List Int} (hr : Lim r) (hs : Lim s) (hD : Byt D) : Lim (facc r s D) := accN_lim hr _ _ _ hs hD
theorem rst_byt {D : List Int} (hD : Byt D) : Byt (rst D) := fun x hx => hD x (List.mem_of_mem_drop hx)
def z5 : List Int := [0, 0, 0, 0, 0]
theorem z5_lim : Lim z5 := ⟨rfl, by decide⟩
/-- the multiplier, the mask -/
def rOf (key : List Int) : List Int := blk (clp (key.take 16) ++ [0])
def sOf (key : List Int) : List Int := key.drop 16
/-- the tag of D -/
def mtag (key D : List Int) : List Int := smt (bts (num (facc (rOf key) z5 D))) (sOf key)
theorem mtag_len (key D : List Int) : (mtag key D).length = 16 := smt_len _ _
theorem mtag_byt (key D : List Int) : Byt (mtag key D) := smt_bd _ _
theorem rOf_byt {key : List Int} (hl : key.length = 32) (h : Byt key) : Byt (clp (key.take 16) ++ [0]) := fun x hx => by
  rcases List.mem_append.1 hx with hx | hx
  · exact (clp_key (l := key.take 16) (by rw [List.length_take]; omega) (fun y hy => h y (List.mem_of_mem_take hy))).2 x hx
  · rw [List.mem_singleton.1 hx]; decide
theorem rOf_lim {key : List Int} (hl : key.length = 32) (h : Byt key) : Lim (rOf key) := blk_lim (rOf_byt hl h)
/-- what is logged -/
abbrev Lg := List (Int × Int)
def tkl : Lg := [(3, 11), (3, 12)]
def ifl (b : Bool) : Int × Int := (1, if b then 1 else 0)
def rnl : Nat → Lg
  | 0 => []
  | n + 1 => rnl n ++ (ifl true :: tkl)
def wlog (h n : Nat) : Lg :=
  (if 0 < h then
    (if h + n < 16 then [ifl true, (2, (h : Int)), (2, (n : Int)), ifl false, ifl false, ifl false]
     else [ifl true, (2, (h : Int)), (2, ((16 - h : Nat) : Int)), ifl true] ++ tkl ++ rnl ((h + n - 16) / 16) ++ [ifl false, ifl (decide (0 < (h + n) % 16))])
   else ifl false :: (rnl (n / 16) ++ [ifl false, ifl (decide (0 < n % 16))]))
def tlog (h : Nat) : Lg := if 0 < h then [ifl true, (2, (h : Int))] ++ tkl else [ifl false]
def olog : Nat → Nat → List Nat → Lg
  | h, _, [] => ifl false :: tlog h
  | h, i, n :: r => ifl true :: (2, (i : Int)) :: (wlog h n ++ olog ((h + n) % 16) (i + 1) r)
theorem rnl_len (n : Nat) : (rnl n).length = 3 * n := by
  induction n with
  | zero => rfl
  | succ n ih => simp [rnl, ih, tkl]; omega
theorem wlog_len (h n : Nat) (hh : h < 16) : (wlog h n).length ≤ 20 + n := by
  unfold wlog
  split
  · split
    · simp; omega
    · simp [rnl_len, tkl]; omega
  · simp [rnl_len]; omega
theorem tlog_len (h : Nat) : (tlog h).length ≤ 4 := by unfold tlog; split <;> simp [tkl]
theorem olog_len : ∀ (l : List Nat) (h i : Nat), h < 16 → (olog h i l).length ≤ 5 + 22 * l.length + l.sum
  | [], h, i, _ => by have := tlog_len h; simp [olog]; omega
  | n :: r, h, i, hh => by
    have h1 := wlog_len h n hh
    have h2 := olog_len r ((h + n) % 16) (i + 1) (by omega)
    simp [olog]
    omega
end Go.Prm
