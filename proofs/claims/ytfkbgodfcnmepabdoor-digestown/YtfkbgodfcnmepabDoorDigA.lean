import Derived.Test.YtfkbgodfcnmepabDoorStrA
namespace Go.Dig
open Go Go.Pin Go.Str
/-- a mixing -/
def mx (a b c d x y : Nat) : Nat × Nat × Nat × Nat :=
  let a1 := ad a (ad b x)
  let d1 := rot (d ^^^ a1) 16
  let c1 := ad c d1
  let b1 := rot (b ^^^ c1) 20
  let a2 := ad a1 (ad b1 y)
  let d2 := rot (d1 ^^^ a2) 24
  let c2 := ad c1 d2
  let b2 := rot (b1 ^^^ c2) 25
  (a2, b2, c2, d2)
/-- a mixing at four places -/
def mat (s : List Nat) (i j k m x y : Nat) : List Nat :=
  (((s.set i (mx (s.getD i 0) (s.getD j 0) (s.getD k 0) (s.getD m 0) x y).1).set j (mx (s.getD i 0) (s.getD j 0) (s.getD k 0) (s.getD m 0) x y).2.1).set k (mx (s.getD i 0) (s.getD j 0) (s.getD k 0) (s.getD m 0) x y).2.2.1).set m (mx (s.getD i 0) (s.getD j 0) (s.getD k 0) (s.getD m 0) x y).2.2.2
theorem mx_lt {a b c d x y : Nat} (hb : b < 4294967296) (hd : d < 4294967296) :
    (mx a b c d x y).1 < 4294967296 ∧ (mx a b c d x y).2.1 < 4294967296 ∧ (mx a b c d x y).2.2.1 < 4294967296 ∧ (mx a b c d x y).2.2.2 < 4294967296 := by
  have d1 := rot_lt (d ^^^ ad a (ad b x)) 16 (by decide) (xor_lt hd (ad_lt _ _))
  have b1 := rot_lt (b ^^^ ad c (rot (d ^^^ ad a (ad b x)) 16)) 20 (by decide) (xor_lt hb (ad_lt _ _))
  refine ⟨ad_lt _ _, rot_lt _ 25 (by decide) (xor_lt b1 (ad_lt _ _)), ad_lt _ _, rot_lt _ 24 (by decide) (xor_lt d1 (ad_lt _ _))⟩
theorem mat_len (s : List Nat) (i j k m x y : Nat) : (mat s i j k m x y).length = s.length := by simp [mat]
theorem mat_w {s : List Nat} (h : W32 s) (i j k m x y : Nat) : W32 (mat s i j k m x y) := by
  obtain ⟨h1, h2, h3, h4⟩ := mx_lt (a := s.getD i 0) (c := s.getD k 0) (x := x) (y := y) (h.at j) (h.at m)
  exact (((h.set _ _ h1).set _ _ h2).set _ _ h3).set _ _ h4
/-- the orders -/
def ord : Nat → List Nat
  | 0 => [0, 1, 2, 3, 4, 5, 6, 7, 8, 9, 10, 11, 12, 13, 14, 15]
  | 1 => [14, 10, 4, 8, 9, 15, 13, 6, 1, 12, 0, 2, 11, 7, 5, 3]
  | 2 => [11, 8, 12, 0, 5, 2, 15, 13, 10, 14, 3, 6, 7, 1, 9, 4]
  | 3 => [7, 9, 3, 1, 13, 12, 11, 14, 2, 6, 5, 10, 4, 0, 15, 8]
  | 4 => [9, 0, 5, 7, 2, 4, 10, 15, 14, 1, 11, 12, 6, 8, 3, 13]
  | 5 => [2, 12, 6, 10, 0, 11, 8, 3, 4, 13, 7, 5, 15, 14, 1, 9]
  | 6 => [12, 5, 1, 15, 14, 13, 4, 10, 0, 7, 6, 3, 9, 2, 8, 11]
  | 7 => [13, 11, 7, 14, 12, 1, 3, 9, 5, 0, 15, 4, 8, 6, 2, 10]
  | 8 => [6, 15, 14, 9, 11, 3, 0, 8, 12, 2, 13, 7, 1, 4, 10, 5]
  | 9 => [10, 2, 8, 4, 7, 6, 1, 5, 15, 11, 9, 14, 3, 12, 13, 0]
  | _ => []
/-- the k-th mixing of a round -/
def stp (o m v : List Nat) (k : Nat) : List Nat :=
  if k < 4 then mat v k (4 + k) (8 + k) (12 + k) (m.getD (o.getD (2 * k) 0) 0) (m.getD (o.getD (2 * k + 1) 0) 0)
  else mat v (k - 4) (4 + (k - 3) % 4) (8 + (k - 2) % 4) (12 + (k - 1) % 4) (m.getD (o.getD (2 * k) 0) 0) (m.getD (o.getD (2 * k + 1) 0) 0)
def rnk (o m v : List Nat) : Nat → List Nat
  | 0 => v
  | k + 1 => stp o m (rnk o m v k) k
def rds (m v : List Nat) : Nat → List Nat
  | 0 => v
  | r + 1 => rnk (ord r) m (rds m v r) 8
theorem rnk_len (o m v : List Nat) (k : Nat) : (rnk o m v k).length = v.length := by
  induction k with
  | zero => rfl
  | succ k ih => unfold rnk stp; split <;> rw [mat_len, ih]
theorem rnk_w {v : List Nat} (h : W32 v) (o m : List Nat) (k : Nat) : W32 (rnk o m v k) := by
  induction k with
  | zero => exact h
  | succ k ih => unfold rnk stp; split <;> exact mat_w ih _ _ _ _ _ _
theorem rds_len (m v : List Nat) (r : Nat) : (rds m v r).length = v.length := by
  induction r with
  | zero => rfl
  | succ k ih => unfold rds; rw [rnk_len, ih]
theorem rds_w {v : List Nat} (h : W32 v) (m : List Nat) (k : Nat) : W32 (rds m v k) := by
  induction k with
  | zero => exact h
  | succ k ih => exact rnk_w ih _ _ _
/-- the beginning -/
def iv : List Nat := [1779033703, 3144134277, 1013904242, 2773480762, 1359893119, 2600822924, 528734635, 1541459225]
/-- sixteen words, before the rounds -/
def pv (h : List Nat) (count mark : Nat) : List Nat := h ++ [1779033703, 3144134277, 1013904242, 2773480762, 1359893119 ^^^ (count % 4294967296), 2600822924 ^^^ (count / 4294967296 % 4294967296), 528734635 ^^^ mark, 1541459225]
/-- bytes -/
def Byb (b : List Int) : Prop := ∀ x ∈ b, 0 ≤ x ∧ x < 256
theorem Byb.at {b : List Int} (h : Byb b) (i : Nat) : 0 ≤ b.getD i 0 ∧ b.getD i 0 < 256 := by
  by_cases hi : i < b.length
  · rw [List.getD_eq_getElem?_getD, List.getElem?_eq_getElem hi]; exact h _ (List.getElem_mem _)
  · rw [List.getD_eq_getElem?_getD, List.getElem?_eq_none (Nat.le_of_not_lt hi)]; decide
/-- the words of a block -/
def wdi (b : List Int) (i : Nat) : Nat := (b.getD (4 * i) 0 + 256 * b.getD (4 * i + 1) 0 + 65536 * b.getD (4 * i + 2) 0 + 16777216 * b.getD (4 * i + 3) 0).toNat
theorem wdi_int {b : List Int} (h : Byb b) (i : Nat) : ((wdi b i : Nat) : Int) = b.getD (4 * i) 0 + 256 * b.getD (4 * i + 1) 0 + 65536 * b.getD (4 * i + 2) 0 + 16777216 * b.getD (4 * i + 3) 0 := by
  have h0 := h.at (4 * i)
  have h1 := h.at (4 * i + 1)
  have h2 := h.at (4 * i + 2)
  have h3 := h.at (4 * i + 3)
  unfold wdi
  omega
theorem wdi_lt {b : List Int} (h : Byb b) (i : Nat) : wdi b i < 4294967296 := by
  have h0 := h.at (4 * i)
  have h1 := h.at (4 * i + 1)
  have h2 := h.at (4 * i + 2)
  have h3 := h.at (4 * i + 3)
  unfold wdi
  omega
def wds (b : List Int) : List Nat := (List.range 16).map (wdi b)
theorem wds_len (b : List Int) : (wds b).length = 16 := by simp [wds]
theorem wds_w {b : List Int} (h : Byb b) : W32 (wds b) := fun x hx => by
  obtain ⟨i, _, rfl⟩ := List.mem_map.1 hx
  exact wdi_lt h i
theorem wds_at (b : List Int) {i : Nat} (hi : i < 16) : (wds b).getD i 0 = wdi b i := by simp [wds, List.getD, hi]
/-- to press -/
def prs (h : List Nat) (b : List Int) (count mark : Nat) : List Nat := (List.range 8).map fun i => h.getD i 0 ^^^ ((rds (wds b) (pv h count mark) 10).getD i 0 ^^^ (rds (wds b) (pv h count mark) 10).getD (i + 8) 0)
structure S8 (h : List Nat) : Prop where
  len : h.length = 8
  bd : W32 h
theorem iv_s8 : S8 iv := ⟨rfl, by unfold W32 iv; decide⟩
theorem pv_len {h : List Nat} (hh : S8 h) (count mark : Nat) : (pv h count mark).length = 16 := by simp [pv, hh.len]
theorem pv_w {h : List Nat} (hh : S8 h) (count : Nat) {mark : Nat} (hm : mark < 4294967296) : W32 (pv h count mark) := fun x hx => by
  unfold pv at hx
  rcases List.mem_append.1 hx with hx | hx
  · exact hh.bd x hx
  · simp only [List.mem_cons, List.not_mem_nil, or_false] at hx
    rcases hx with rfl | rfl | rfl | rfl | rfl | rfl | rfl | rfl
    · decide
    · decide
    · decide
    · decide
    · exact xor_lt (by decide) (Nat.mod_lt _ (by decide))
    · exact xor_lt (by decide) (Nat.mod_lt _ (by decide))
    · exact xor_lt (by decide) hm
    · decide
theorem prs_s8 {h : List Nat} (hh : S8 h) (b : List Int) (count : Nat) {mark : Nat} (hm : mark < 4294967296) : S8 (prs h b count mark) := ⟨by simp [prs], fun x hx => by
  obtain ⟨i, _, rfl⟩ := List.mem_map.1 hx
  have hw := rds_w (pv_w hh count hm) (wds b) 10
  exact xor_lt (hh.bd.at _) (xor_lt (hw.at _) (hw.at _))⟩
/-- the key, filled up -/
def fil (key : List Int) : List Int := if key.length = 0 then [] else key ++ List.replicate (64 - key.length) 0
theorem fil_len (key : List Int) (h : key.length ≤ 32) : (fil key).length = if key.length = 0 then 0 else 64 := by
  unfold fil
  split
  · rfl
  · simp; omega
theorem fil_byb {key : List Int} (h : Byb key) : Byb (fil key) := fun x hx => by
  unfold fil at hx
  split at hx
  · cases hx
  · rcases List.mem_append.1 hx with hx | hx
    · exact h x hx
    · rw [(List.mem_replicate.1 hx).2]; decide
/-- the state at the beginning -/
def h0 (size kl : Nat) : List Nat := iv.set 0 (1779033703 ^^^ (16842752 + 256 * kl + size))
theorem h0_s8 {size kl : Nat} (hs : size ≤ 32) (hk : kl ≤ 32) : S8 (h0 size kl) := ⟨rfl, iv_s8.bd.set _ _ (xor_lt (by decide) (by omega))⟩
/-- how many blocks of n bytes are pressed, when no byte comes behind them -/
def nbl (n : Nat) : Nat := (n - 1) / 64
/-- the state when k blocks are pressed -/
def prn (h : List Nat) (A : List Int) : Nat → List Nat
  | 0 => h
  | k + 1 => prs (prn h A k) ((A.drop (64 * k)).take 64) (64 * (k + 1)) 0
theorem prn_s8 {h : List Nat} (hh : S8 h) (A : List Int) (k : Nat) : S8 (prn h A k) := by
  induction k with
  | zero => exact hh
  | succ k ih => exact prs_s8 ih _ _ (by decide)
theorem prn_app (h : List Nat) (A D : List Int) (k : Nat) (hk : 64 * k ≤ A.length) : prn h (A ++ D) k = prn h A k := by
  induction k with
  | zero => rfl
  | succ k ih =>
    unfold prn
    rw [ih (by omega), List.drop_append_of_le_length (by omega), List.take_append_of_le_length (by rw [List.length_drop]; omega)]
/-- what is held -/
def hld (A : List Int) : List Int := A.drop (64 * nbl A.length)
theorem hld_len (A : List Int) : (hld A).length = A.length - 64 * nbl A.length := List.length_drop ..
theorem hld_le (A : List Int) : (hld A).length ≤ 64 := by rw [hld_len]; unfold nbl; omega
theorem nbl_le (n : Nat) : 64 * nbl n ≤ n := by unfold nbl; omega
/-- the digest's words -/
def dgw (h : List Nat) (A : List Int) : List Nat := prs (prn h A (nbl A.length)) (hld A) A.length 4294967295
theorem dgw_s8 {h : List Nat} (hh : S8 h) (A : List Int) : S8 (dgw h A) := prs_s8 (prn_s8 hh _ _) _ _ (by decide)
/-- the first bytes of words -/
def spl (h : List Nat) (n : Nat) : List Int := (List.range n).map fun j => ((bt h j : Nat) : Int)
theorem spl_len (h : List Nat) (n : Nat) : (spl h n).length = n := by simp [spl]
theorem spl_byb (h : List Nat) (n : Nat) : Byb (spl h n) := fun x hx => by
  obtain ⟨i, _, rfl⟩ := List.mem_map.1 hx
  have := bt_lt h i
  omega
theorem spl_take (h : List Nat) {n m : Nat} (hnm : n ≤ m) : (spl h m).take n = spl h n := by
  simp only [spl, ← List.map_take, List.take_range, Nat.min_eq_left hnm]
/-- P8.1 -/
def dig (size : Nat) (key D : List Int) : List Int := spl (dgw (h0 size key.length) (fil key ++ D)) size
theorem dig_len (size : Nat) (key D : List Int) : (dig size key D).length = size := spl_len _ _
/-- P8.7: what Write logs of n bytes, h held -/
def wlg : Nat → Nat → Nat → List (Int × Int)
  | 0, _, _ => []
  | f + 1, h, n => if n = 0 then [(1, 0)] else
    if h = 64 then [(1, 1), (1, 1), (3, 31), (2, 0), (2, ((min 64 n : Nat) : Int))] ++ wlg f (min 64 n) (n - min 64 n)
    else [(1, 1), (1, 0), (2, (h : Int)), (2, ((min (64 - h) n : Nat) : Int))] ++ wlg f (h + min (64 - h) n) (n - min (64 - h) n)
end Go.Dig
