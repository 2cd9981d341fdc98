import Derived.Test.YtfkbgodfcnmepabDoorRows
import Derived.Test.YtfkbgodfcnmepabDoorPin
namespace Go.Str
open Go Go.Pin
/-- numbers as cells -/
def VN (k : IntKind) (l : List Nat) : Array Value := VI k (l.map Int.ofNat)
theorem VN_size (k : IntKind) (l : List Nat) : (VN k l).size = l.length := by simp [VN, VI]
theorem VN_at (k : IntKind) (l : List Nat) (i : Nat) (h : i < l.length) : (VN k l)[i]? = some (.int k ((l.getD i 0 : Nat) : Int)) := by
  simp [VN, VI, List.getElem?_eq_getElem h]
theorem VN_set (k : IntKind) (l : List Nat) (i v : Nat) : (VN k l).setIfInBounds i (.int k (v : Int)) = VN k (l.set i v) := by
  unfold VN; rw [VI_set, List.map_set]; rfl
theorem VN_one (k : IntKind) (l : List Nat) : (VN k l).all (·.oneCell') = true := VI_one _ _
/-- + modulo 2^32 -/
def ad (a b : Nat) : Nat := (a + b) % 4294967296
/-- turned by n digits -/
def rot (x n : Nat) : Nat := x * 2 ^ n % 4294967296 + x * 2 ^ n / 4294967296
theorem ad_lt (a b : Nat) : ad a b < 4294967296 := Nat.mod_lt _ (by decide)
theorem rot_eq (x n : Nat) (hn : n ≤ 32) : rot x n = 2 ^ n * (x % 2 ^ (32 - n)) + x / 2 ^ (32 - n) := by
  have h : (4294967296 : Nat) = 2 ^ n * 2 ^ (32 - n) := by rw [← Nat.pow_add, show n + (32 - n) = 32 by omega]
  unfold rot
  rw [h, Nat.mul_comm x, Nat.mul_mod_mul_left, Nat.mul_div_mul_left _ _ (Nat.two_pow_pos n)]
theorem rot_or (x n : Nat) (hn : n ≤ 32) (hx : x < 4294967296) : (x * 2 ^ n % 4294967296) ||| (x / 2 ^ (32 - n)) = rot x n := by
  have h : (4294967296 : Nat) = 2 ^ n * 2 ^ (32 - n) := by rw [← Nat.pow_add, show n + (32 - n) = 32 by omega]
  have hb : x / 2 ^ (32 - n) < 2 ^ n := by
    rw [Nat.div_lt_iff_lt_mul (Nat.two_pow_pos _), ← h]; exact hx
  rw [rot_eq x n hn, Nat.two_pow_add_eq_or_of_lt hb, h, Nat.mul_comm x, Nat.mul_mod_mul_left]
theorem rot_lt (x n : Nat) (hn : n ≤ 32) (hx : x < 4294967296) : rot x n < 4294967296 := by
  rw [← rot_or x n hn hx]
  refine Nat.or_lt_two_pow (n := 32) (Nat.mod_lt _ (by decide)) (Nat.lt_of_le_of_lt (Nat.div_le_self _ _) hx)
theorem xor_lt {a b : Nat} (ha : a < 4294967296) (hb : b < 4294967296) : a ^^^ b < 4294967296 := Nat.xor_lt_two_pow (n := 32) ha hb
/-- a quarter round -/
def qr (a b c d : Nat) : Nat × Nat × Nat × Nat :=
  let a1 := ad a b
  let d1 := rot (d ^^^ a1) 16
  let c1 := ad c d1
  let b1 := rot (b ^^^ c1) 12
  let a2 := ad a1 b1
  let d2 := rot (d1 ^^^ a2) 8
  let c2 := ad c1 d2
  let b2 := rot (b1 ^^^ c2) 7
  (a2, b2, c2, d2)
/-- a quarter round at four places -/
def qat (s : List Nat) (i j k m : Nat) : List Nat :=
  (((s.set i (qr (s.getD i 0) (s.getD j 0) (s.getD k 0) (s.getD m 0)).1).set j (qr (s.getD i 0) (s.getD j 0) (s.getD k 0) (s.getD m 0)).2.1).set k (qr (s.getD i 0) (s.getD j 0) (s.getD k 0) (s.getD m 0)).2.2.1).set m (qr (s.getD i 0) (s.getD j 0) (s.getD k 0) (s.getD m 0)).2.2.2
/-- words: each below 2^32 -/
def W32 (s : List Nat) : Prop := ∀ x ∈ s, x < 4294967296
theorem W32.at {s : List Nat} (h : W32 s) (i : Nat) : s.getD i 0 < 4294967296 := by
  by_cases hi : i < s.length
  · have : s.getD i 0 ∈ s := by simp [List.getD, hi]
    exact h _ this
  · simp [List.getD, List.getElem?_eq_none (Nat.le_of_not_lt hi)]
theorem W32.set {s : List Nat} (h : W32 s) (i v : Nat) (hv : v < 4294967296) : W32 (s.set i v) := fun x hx => by
  rcases List.mem_or_eq_of_mem_set hx with hx | rfl
  · exact h x hx
  · exact hv
theorem qr_lt {a b c d : Nat} (hb : b < 4294967296) (hd : d < 4294967296) :
    (qr a b c d).1 < 4294967296 ∧ (qr a b c d).2.1 < 4294967296 ∧ (qr a b c d).2.2.1 < 4294967296 ∧ (qr a b c d).2.2.2 < 4294967296 := by
  have d1 := rot_lt (d ^^^ ad a b) 16 (by decide) (xor_lt hd (ad_lt _ _))
  have b1 := rot_lt (b ^^^ ad c (rot (d ^^^ ad a b) 16)) 12 (by decide) (xor_lt hb (ad_lt _ _))
  refine ⟨ad_lt _ _, rot_lt _ 7 (by decide) (xor_lt b1 (ad_lt _ _)), ad_lt _ _, rot_lt _ 8 (by decide) (xor_lt d1 (ad_lt _ _))⟩
theorem qat_len (s : List Nat) (i j k m : Nat) : (qat s i j k m).length = s.length := by simp [qat]
theorem qat_w {s : List Nat} (h : W32 s) (i j k m : Nat) : W32 (qat s i j k m) := by
  obtain ⟨h1, h2, h3, h4⟩ := qr_lt (a := s.getD i 0) (c := s.getD k 0) (h.at j) (h.at m)
  exact (((h.set i _ h1).set j _ h2).set k _ h3).set m _ h4
def col (s : List Nat) (i : Nat) : List Nat := qat s i (4 + i) (8 + i) (12 + i)
def dia (s : List Nat) (i : Nat) : List Nat := qat s i (4 + (i + 1) % 4) (8 + (i + 2) % 4) (12 + (i + 3) % 4)
def cols : Nat → List Nat → List Nat
  | 0, s => s
  | n + 1, s => col (cols n s) n
def dias : Nat → List Nat → List Nat
  | 0, s => s
  | n + 1, s => dia (dias n s) n
def rnds : Nat → List Nat → List Nat
  | 0, s => s
  | n + 1, s => dias 4 (cols 4 (rnds n s))
def blk (s : List Nat) : List Nat := List.zipWith ad (rnds 10 s) s
structure St (s : List Nat) : Prop where
  len : s.length = 16
  bd : W32 s
theorem St.cols {s : List Nat} (h : St s) (n : Nat) : St (cols n s) := by
  induction n with
  | zero => exact h
  | succ n ih => exact ⟨(qat_len _ _ _ _ _).trans ih.len, qat_w ih.bd _ _ _ _⟩
theorem St.dias {s : List Nat} (h : St s) (n : Nat) : St (dias n s) := by
  induction n with
  | zero => exact h
  | succ n ih => exact ⟨(qat_len _ _ _ _ _).trans ih.len, qat_w ih.bd _ _ _ _⟩
theorem St.rnds {s : List Nat} (h : St s) (n : Nat) : St (rnds n s) := by
  induction n with
  | zero => exact h
  | succ n ih => exact (ih.cols 4).dias 4
theorem St.blk {s : List Nat} (h : St s) : St (blk s) := by
  refine ⟨by simp [Str.blk, (h.rnds 10).len, h.len], fun x hx => ?_⟩
  unfold Str.blk at hx
  obtain ⟨i, hi, rfl⟩ := List.getElem_of_mem hx
  rw [List.getElem_zipWith]
  exact ad_lt _ _
/-- byte j of the words -/
def bt (ws : List Nat) (j : Nat) : Nat := ws.getD (j / 4) 0 / 256 ^ (j % 4) % 256
theorem bt_lt (ws : List Nat) (j : Nat) : bt ws j < 256 := Nat.mod_lt _ (by decide)
/-- word i of the bytes -/
def wd (b : List Nat) (i : Nat) : Nat := b.getD (4 * i) 0 + 256 * b.getD (4 * i + 1) 0 + 65536 * b.getD (4 * i + 2) 0 + 16777216 * b.getD (4 * i + 3) 0
def st (key : List Nat) (c : Nat) (nonce : List Nat) : List Nat :=
  [1634760805, 857760878, 2036477234, 1797285236] ++ (List.range 8).map (wd key) ++ [c] ++ (List.range 3).map (wd nonce)
/-- bytes -/
structure Bs (n : Nat) (l : List Nat) : Prop where
  len : l.length = n
  bd : ∀ x ∈ l, x < 256
theorem Bs.at {n : Nat} {l : List Nat} (h : Bs n l) (i : Nat) : l.getD i 0 < 256 := by
  by_cases hi : i < l.length
  · have : l.getD i 0 ∈ l := by simp [List.getD, hi]
    exact h.bd _ this
  · simp [List.getD, List.getElem?_eq_none (Nat.le_of_not_lt hi)]
theorem Bs.wd {n : Nat} {l : List Nat} (h : Bs n l) (i : Nat) : wd l i < 4294967296 := by
  have h0 := h.at (4 * i)
  have h1 := h.at (4 * i + 1)
  have h2 := h.at (4 * i + 2)
  have h3 := h.at (4 * i + 3)
  unfold Str.wd; omega
theorem st_st {key nonce : List Nat} {c : Nat} (hk : Bs 32 key) (hn : Bs 12 nonce) (hc : c < 4294967296) : St (st key c nonce) := by
  refine ⟨by simp [st], fun x hx => ?_⟩
  simp only [st, List.mem_append, List.mem_map, List.mem_cons, List.not_mem_nil, or_false] at hx
  rcases hx with ((hx | ⟨i, _, rfl⟩) | rfl) | ⟨i, _, rfl⟩
  · rcases hx with rfl | rfl | rfl | rfl <;> decide
  · exact hk.wd i
  · exact hc
  · exact hn.wd i
theorem st_set (key nonce : List Nat) (c d : Nat) : (st key c nonce).set 12 d = st key d nonce := rfl
theorem st_at (key nonce : List Nat) (c : Nat) : (st key c nonce).getD 12 0 = c := rfl
/-- byte j of the stream -/
def ks (key : List Nat) (c : Nat) (nonce : List Nat) (j : Nat) : Nat := bt (blk (st key ((c + j / 64) % 4294967296) nonce)) (j % 64)
theorem ks_lt (key : List Nat) (c : Nat) (nonce : List Nat) (j : Nat) : ks key c nonce j < 256 := bt_lt _ _
/-- the bytes of L at the places S turned by f -/
def xp (L : List Nat) (S : Nat → Bool) (f : Nat → Nat) : List Nat := L.mapIdx fun j x => if S j then x ^^^ f j else x
theorem xp_len (L : List Nat) (S : Nat → Bool) (f : Nat → Nat) : (xp L S f).length = L.length := by simp [xp]
theorem xp_at (L : List Nat) (S : Nat → Bool) (f : Nat → Nat) (j : Nat) (hj : j < L.length) : (xp L S f).getD j 0 = if S j then L.getD j 0 ^^^ f j else L.getD j 0 := by
  simp [xp, List.getD, List.getElem?_mapIdx, List.getElem?_eq_getElem hj]
theorem list_ext {a b : List Nat} (hl : a.length = b.length) (h : ∀ j, j < a.length → a.getD j 0 = b.getD j 0) : a = b := by
  apply List.ext_getElem hl
  intro j h1 h2
  have := h j h1
  simpa [List.getD, List.getElem?_eq_getElem h1, List.getElem?_eq_getElem h2] using this
theorem xp_comp {L : List Nat} {S S' R : Nat → Bool} {f f' g : Nat → Nat} (h : ∀ j, j < L.length → R j = (S j || S' j)) (hd : ∀ j, j < L.length → S j = true → S' j = false) (h1 : ∀ j, j < L.length → S j = true → g j = f j) (h2 : ∀ j, j < L.length → S' j = true → g j = f' j) :
    xp (xp L S f) S' f' = xp L R g := by
  apply list_ext (by simp [xp_len])
  intro j hj
  rw [xp_len, xp_len] at hj
  rw [xp_at _ _ _ _ (by rw [xp_len]; exact hj), xp_at _ _ _ _ hj, xp_at _ _ _ _ hj, h j hj]
  cases e : S j with
  | true => rw [hd j hj e]; simp [h1 j hj e]
  | false =>
    cases e2 : S' j with
    | true => simp [h2 j hj e2]
    | false => simp
theorem xp_bd {L : List Nat} {S : Nat → Bool} {f : Nat → Nat} (hL : ∀ x ∈ L, x < 256) (hf : ∀ j, f j < 256) : ∀ x ∈ xp L S f, x < 256 := by
  intro x hx
  obtain ⟨i, hi, rfl⟩ := List.getElem_of_mem hx
  simp only [xp, List.getElem_mapIdx]
  have : L[i]'(by rw [xp_len] at hi; exact hi) < 256 := hL _ (List.getElem_mem _)
  split
  · exact Nat.xor_lt_two_pow (n := 8) this (hf _)
  · exact this
theorem xp_congr {L : List Nat} {S R : Nat → Bool} {f g : Nat → Nat} (h : ∀ j, j < L.length → S j = R j) (h1 : ∀ j, j < L.length → R j = true → f j = g j) : xp L S f = xp L R g := by
  apply list_ext (by simp [xp_len])
  intro j hj
  rw [xp_len] at hj
  rw [xp_at _ _ _ _ hj, xp_at _ _ _ _ hj, h j hj]
  cases e : R j with
  | true => simp [h1 j hj e]
  | false => simp
theorem xp_none (L : List Nat) (S : Nat → Bool) (f : Nat → Nat) (h : ∀ j, j < L.length → S j = false) : xp L S f = L := by
  apply list_ext (xp_len _ _ _)
  intro j hj
  rw [xp_len] at hj
  rw [xp_at _ _ _ _ hj, h j hj]; rfl
/-- a place from o on, n of them -/
def seg (o n : Nat) (j : Nat) : Bool := decide (o ≤ j) && decide (j < o + n)
/-- the bytes of L from o on, n of them, turned by f (counted from o) -/
def xr (L : List Nat) (o n : Nat) (f : Nat → Nat) : List Nat := xp L (seg o n) (fun j => f (j - o))
theorem xr_len (L : List Nat) (o n : Nat) (f : Nat → Nat) : (xr L o n f).length = L.length := xp_len _ _ _
theorem xr_app (L : List Nat) (o n m : Nat) (f : Nat → Nat) : xr (xr L o n f) (o + n) m (fun j => f (n + j)) = xr L o (n + m) f := by
  refine xp_comp (fun j hj => ?_) (fun j hj h => ?_) (fun j hj h => rfl) (fun j hj h => ?_)
  · by_cases h1 : o ≤ j <;> by_cases h2 : j < o + n <;> by_cases h3 : o + n ≤ j <;> by_cases h4 : j < o + n + m <;> simp [seg, h1, h2, h3, h4] <;> omega
  · simp [seg] at h ⊢; omega
  · simp [seg] at h; show f (j - o) = f (n + (j - (o + n))); congr 1; omega
theorem xr_zero (L : List Nat) (o : Nat) (f : Nat → Nat) : xr L o 0 f = L := xp_none _ _ _ (fun j _ => by simp [seg])
theorem xr_bd {L : List Nat} {o n : Nat} {f : Nat → Nat} (hL : ∀ x ∈ L, x < 256) (hf : ∀ j, f j < 256) : ∀ x ∈ xr L o n f, x < 256 := xp_bd hL (fun _ => hf _)
theorem xr_congr {L : List Nat} {o n : Nat} {f g : Nat → Nat} (h : ∀ j, j < n → f j = g j) : xr L o n f = xr L o n g := xp_congr (fun _ _ => rfl) (fun j _ hj => by simp [seg] at hj; exact h _ (by omega))
/-- four states in rows of four -/
def wv (f : Nat → List Nat) : List Nat := (List.range 64).map fun p => (f (p % 4)).getD (p / 4) 0
theorem wv_len (f : Nat → List Nat) : (wv f).length = 64 := by simp [wv]
theorem wv_at (f : Nat → List Nat) (p : Nat) (hp : p < 64) : (wv f).getD p 0 = (f (p % 4)).getD (p / 4) 0 := by
  simp [wv, List.getD, hp]
theorem wv_at4 (f : Nat → List Nat) (i l : Nat) (hi : i < 16) (hl : l < 4) : (wv f).getD (4 * i + l) 0 = (f l).getD i 0 := by
  rw [wv_at _ _ (by omega), show (4 * i + l) % 4 = l by omega, show (4 * i + l) / 4 = i by omega]
theorem wv_w {f : Nat → List Nat} (h : ∀ l, l < 4 → W32 (f l)) : W32 (wv f) := fun x hx => by
  simp only [wv, List.mem_map, List.mem_range] at hx
  obtain ⟨p, _, rfl⟩ := hx
  exact (h _ (by omega)).at _
def upd (f : Nat → List Nat) (l : Nat) (v : List Nat) : Nat → List Nat := fun k => if k = l then v else f k
theorem wv_set (f : Nat → List Nat) (i l v : Nat) (hi : i < 16) (hl : l < 4) (hf : (f l).length = 16) : (wv f).set (4 * i + l) v = wv (upd f l ((f l).set i v)) := by
  apply list_ext (by simp [wv_len])
  intro p hp
  simp [wv_len] at hp
  rw [wv_at _ _ hp]
  by_cases e : p = 4 * i + l
  · subst e
    rw [show (4 * i + l) % 4 = l by omega, show (4 * i + l) / 4 = i by omega]
    simp [upd, List.getD, wv_len, hf, hi, show 4 * i + l < 64 by omega]
  · rw [show ((wv f).set (4 * i + l) v).getD p 0 = (wv f).getD p 0 by simp [List.getD, List.getElem?_set_ne (fun h => e h.symm)], wv_at _ _ hp]
    unfold upd
    split
    · rename_i h
      rw [h]
      have : i ≠ p / 4 := by omega
      simp [List.getD, List.getElem?_set_ne this]
    · rfl
theorem upd_upd (f : Nat → List Nat) (l : Nat) (a b : List Nat) : upd (upd f l a) l b = upd f l b := by funext k; simp [upd]; split <;> rfl
theorem upd_self (f : Nat → List Nat) (l : Nat) (a : List Nat) : upd f l a l = a := by simp [upd]
theorem wv_qat (f : Nat → List Nat) (i j k m l : Nat) (hi : i < 16) (hj : j < 16) (hk : k < 16) (hm : m < 16) (hl : l < 4) (hf : (f l).length = 16) :
    qat (wv f) (4 * i + l) (4 * j + l) (4 * k + l) (4 * m + l) = wv (upd f l (qat (f l) i j k m)) := by
  unfold qat
  rw [wv_at4 _ _ _ hi hl, wv_at4 _ _ _ hj hl, wv_at4 _ _ _ hk hl, wv_at4 _ _ _ hm hl]
  rw [wv_set _ _ _ _ hi hl hf, wv_set _ _ _ _ hj hl (by simp [upd, hf]), wv_set _ _ _ _ hk hl (by simp [upd, hf]), wv_set _ _ _ _ hm hl (by simp [upd, hf])]
  simp only [upd_upd, upd_self]
/-- the first n states turned -/
def fst4 (f g : Nat → List Nat) (n : Nat) : Nat → List Nat := fun k => if k < n then g k else f k
theorem fst4_succ (f g : Nat → List Nat) (n : Nat) : upd (fst4 f g n) n (g n) = fst4 f g (n + 1) := by
  funext k
  simp only [upd, fst4]
  by_cases h : k = n
  · subst h; simp
  · by_cases h2 : k < n
    · simp [h, h2, show k < n + 1 by omega]
    · simp [h, h2, show ¬ k < n + 1 by omega]
theorem wv_congr {f g : Nat → List Nat} (h : ∀ l, l < 4 → f l = g l) : wv f = wv g := by
  unfold wv
  apply List.map_congr_left
  intro p _
  rw [h _ (by omega)]
end Go.Str
