import Derived.Lib.Join
/- patterns az data, and the document's rules of them, az numbers alone -/
namespace Go.Pat
abbrev Ln := Int × List Int
structure Pt where
  nm : ByteArray
  b0 : List Int
  b1 : List Int
  ln : List Ln
def ahd : List Int → Bool
  | [] => true
  | [a] => a == 1 || a == 2
  | [a, b] => a == 1 && b == 2
  | _ => false
def isTok (t : Int) : Bool := decide (1 ≤ t ∧ t ≤ 7)
/-- the lines behind one of side p, with n tokens so far -/
def shp : Option Int → Nat → List Ln → Bool
  | _, _, [] => true
  | p, n, (f, ts) :: r => (decide (f = 0 ∨ f = 1) && decide (p ≠ some f) && !ts.isEmpty && decide (n + ts.length ≤ 24) && ts.all isTok) && shp (some f) (n + ts.length) r
def shaped (p : Pt) : Bool := ahd p.b0 && ahd p.b1 && !p.ln.isEmpty && shp none 0 p.ln
/-- e, e, s, s, and eight that are done -/
abbrev Sn := List Bool
def Sn0 : Sn := List.replicate 12 false
def bg (side : Nat) (x : Sn) (l : List Int) : Sn := l.foldl (fun x t => if t = 1 then x.set side true else x.set (2 + side) true) x
def beg (p : Pt) : Sn := bg 1 (bg 0 Sn0 p.b0) p.b1
def B (x : Sn) (i : Nat) : Bool := x.getD i false
def sf (x : Sn) (s : Nat) : Bool :=
  !(B x 11 && !B x s) && if s = 0 then (!B x 9 || B x 7) && (!B x 10 || B x 8) else (!B x 8 || B x 7) && (!B x 10 || B x 9)
def hs (x : Sn) (t : Int) : Bool :=
  if t = 3 then B x 0 && B x 1 else if t = 4 then B x 0 && B x 3 else if t = 5 then B x 2 && B x 1 else B x 2 && B x 3
def tk (x : Sn) (s : Nat) (t : Int) : Sn × Int :=
  if t = 1 then (if B x s then (x, 10) else (x.set s true, 0))
  else if t = 2 then (if B x (2 + s) then (x, 10) else if sf x s then (x.set (2 + s) true, 0) else (x, 12))
  else if t = 7 then (x.set 11 true, 0)
  else if B x (4 + t.toNat) then (x, 10) else if hs x t then (x.set (4 + t.toNat) true, 0) else (x, 11)
/-- the tokens of one message -/
def tks (s : Nat) : Sn → List Int → Sn × Int
  | x, [] => (x, 0)
  | x, t :: r => if (tk x s t).2 = 0 then tks s (tk x s t).1 r else tk x s t
def lns : Sn → List Ln → Sn × Int
  | x, [] => (x, 0)
  | x, (f, ts) :: r => if (tks f.toNat x ts).2 ≠ 0 then tks f.toNat x ts else if sf (tks f.toNat x ts).1 f.toNat then lns (tks f.toNat x ts).1 r else (x, 12)
def oneWay (p : Pt) : Bool := match p.ln with | [(f, _)] => f == 0 | _ => false
def chk (p : Pt) : Int :=
  if shaped p = false then 9
  else if (lns (beg p) p.ln).2 ≠ 0 then (lns (beg p) p.ln).2
  else if sf (lns (beg p) p.ln).1 0 = false then 12
  else if oneWay p = false ∧ sf (lns (beg p) p.ln).1 1 = false then 12
  else 0
theorem shp_split {p : Option Int} {n : Nat} {f : Int} {ts : List Int} {r : List Ln} : shp p n ((f, ts) :: r) = ((decide (f = 0 ∨ f = 1) && decide (p ≠ some f) && !ts.isEmpty && decide (n + ts.length ≤ 24) && ts.all isTok) && shp (some f) (n + ts.length) r) := rfl
theorem bg_length (s : Nat) (l : List Int) : ∀ x : Sn, (bg s x l).length = x.length := by
  induction l with
  | nil => intro x; rfl
  | cons t r ih => intro x; simp only [bg, List.foldl_cons] at ih ⊢; rw [ih]; split <;> simp
theorem beg_length (p : Pt) : (beg p).length = 12 := by simp [beg, bg_length, Sn0]
theorem tk_length (x : Sn) (s : Nat) (t : Int) : (tk x s t).1.length = x.length := by
  unfold tk
  repeat' split
  all_goals simp
theorem tks_length (s : Nat) (l : List Int) : ∀ x : Sn, (tks s x l).1.length = x.length := by
  induction l with
  | nil => intro x; rfl
  | cons t r ih => intro x; simp only [tks]; split; rw [ih, tk_length]; rw [tk_length]
theorem lns_length (l : List Ln) : ∀ x : Sn, (lns x l).1.length = x.length := by
  induction l with
  | nil => intro x; rfl
  | cons t r ih => obtain ⟨f, ts⟩ := t; intro x; simp only [lns]; split; rw [tks_length]; split; rw [ih, tks_length]; rfl
def tl (L : List Ln) (k : Nat) : Nat := ((L.take k).map (fun l => l.2.length)).sum
def pv (L : List Ln) (k : Nat) : Option Int := if k = 0 then none else some (L.getD (k - 1) (0, [])).1
theorem tl_succ (L : List Ln) (k : Nat) (h : k < L.length) : tl L (k + 1) = tl L k + (L.getD k (0, [])).2.length := by
  unfold tl
  rw [List.take_add_one, List.map_append, List.sum_append, List.getElem?_eq_getElem h]
  simp [List.getD, h]
theorem drop_getD (L : List Ln) (k : Nat) (h : k < L.length) : L.drop k = L.getD k (0, []) :: L.drop (k + 1) := by
  rw [List.drop_eq_getElem_cons h]
  simp [List.getD, h]
theorem shp_at (L : List Ln) (k : Nat) (h : k < L.length) : shp (pv L k) (tl L k) (L.drop k) = ((decide ((L.getD k (0, [])).1 = 0 ∨ (L.getD k (0, [])).1 = 1) && decide (pv L k ≠ some (L.getD k (0, [])).1) && !(L.getD k (0, [])).2.isEmpty && decide (tl L (k + 1) ≤ 24) && (L.getD k (0, [])).2.all isTok) && shp (pv L (k + 1)) (tl L (k + 1)) (L.drop (k + 1))) := by
  rw [drop_getD L k h, tl_succ L k h]
  show shp _ _ (((L.getD k (0, [])).1, (L.getD k (0, [])).2) :: _) = _
  rw [shp_split]
  simp [pv]
end Go.Pat
/- patterns' texts, az data -/
namespace Go.Pat
def wrd (t : Int) : ByteArray :=
  if t = 1 then ⟨#[101]⟩ else if t = 2 then ⟨#[115]⟩ else if t = 3 then ⟨#[101, 101]⟩ else if t = 4 then ⟨#[101, 115]⟩ else if t = 5 then ⟨#[115, 101]⟩ else if t = 6 then ⟨#[115, 115]⟩ else if t = 7 then ⟨#[112, 115, 107]⟩ else ⟨#[]⟩
theorem wrd_size (t : Int) : (wrd t).size ≤ 3 := by
  unfold wrd
  repeat' split
  all_goals decide
def hdr (side : Int) : ByteArray := if side = 1 then ⟨#[32, 32, 60, 45, 32]⟩ else ⟨#[32, 32, 45, 62, 32]⟩
theorem hdr_size (side : Int) : (hdr side).size = 5 := by unfold hdr; split <;> rfl
/-- a row's first i tokens -/
def rowN (h : ByteArray) (l : List Int) : Nat → ByteArray
  | 0 => h
  | i + 1 => (if i = 0 then rowN h l i else rowN h l i ++ ⟨#[44, 32]⟩) ++ wrd (l.getD i 0)
def row (side : Int) (l : List Int) : ByteArray := rowN (hdr side) l l.length ++ ⟨#[10]⟩
theorem rowN_size (h : ByteArray) (l : List Int) (i : Nat) : (rowN h l i).size ≤ h.size + 5 * i := by
  induction i with
  | zero => exact Nat.le_refl _
  | succ i ih =>
    have := wrd_size (l.getD i 0)
    have e : (⟨#[44, 32]⟩ : ByteArray).size = 2 := rfl
    unfold rowN
    rw [ByteArray.size_append]
    split
    · omega
    · rw [ByteArray.size_append, e]; omega
theorem row_size (side : Int) (l : List Int) : (row side l).size ≤ 6 + 5 * l.length := by
  have := rowN_size (hdr side) l l.length
  have e : (⟨#[10]⟩ : ByteArray).size = 1 := rfl
  rw [hdr_size] at this
  unfold row
  rw [ByteArray.size_append, e]
  omega
/-- a byte of a name -/
def nmB (c : UInt8) : Bool := decide (65 ≤ c.toNat ∧ c.toNat ≤ 90) || decide (97 ≤ c.toNat ∧ c.toNat ≤ 122) || decide (48 ≤ c.toNat ∧ c.toNat ≤ 57) || decide (c.toNat = 43)
def isNm (s : ByteArray) : Bool := s.data.toList.all nmB && decide (s.size ≠ 0)
def bef (s : ByteArray) (side : Int) (l : List Int) : ByteArray := if l.length = 0 then s else s ++ row side l
def dots (p : Pt) (s : ByteArray) : ByteArray := if 0 < p.b0.length + p.b1.length then s ++ ⟨#[32, 32, 46, 46, 46, 10]⟩ else s
def txH (p : Pt) : ByteArray := dots p (bef (bef (p.nm ++ ⟨#[58, 10]⟩) 0 p.b0) 1 p.b1)
def txN (p : Pt) : Nat → ByteArray
  | 0 => txH p
  | i + 1 => txN p i ++ row (p.ln.getD i (0, [])).1 (p.ln.getD i (0, [])).2
def txt (p : Pt) : ByteArray := txN p p.ln.length
/-- Print -/
def prn (p : Pt) : ByteArray × Int := if chk p ≠ 0 then (⟨#[]⟩, chk p) else if 4096 < p.nm.size ∨ isNm p.nm = false then (⟨#[]⟩, 8) else if 4096 < (txt p).size then (⟨#[]⟩, 8) else (txt p, 0)
theorem chk_shaped {p : Pt} (h : chk p = 0) : shaped p = true := by
  unfold chk at h
  cases hs : shaped p with
  | true => rfl
  | false => rw [hs] at h; simp at h
theorem ahd_len {l : List Int} (h : ahd l = true) : l.length ≤ 2 := by
  match l, h with
  | [], _ => simp
  | [_], _ => simp
  | [_, _], _ => simp
  | _ :: _ :: _ :: _, h => simp [ahd] at h
theorem shp_len : ∀ (L : List Ln) (p : Option Int) (n : Nat), shp p n L = true → n + L.length ≤ 24 ∨ L = []
  | [], _, _, _ => .inr rfl
  | (f, ts) :: r, p, n, h => by
    rw [shp_split] at h
    simp only [Bool.and_eq_true, decide_eq_true_eq, Bool.not_eq_true', List.isEmpty_eq_false_iff] at h
    have h1 : 0 < ts.length := List.length_pos_iff.2 h.1.1.1.2
    rcases shp_len r _ _ h.2 with h2 | h2
    · left; simp; omega
    · left; rw [h2]; simp; omega
theorem shp_mem : ∀ (L : List Ln) (p : Option Int) (n : Nat), shp p n L = true → ∀ l ∈ L, (l.1 = 0 ∨ l.1 = 1) ∧ l.2 ≠ [] ∧ l.2.length ≤ 24 ∧ l.2.all isTok = true
  | [], _, _, _, l, hl => by simp at hl
  | (f, ts) :: r, p, n, h, l, hl => by
    rw [shp_split] at h
    simp only [Bool.and_eq_true, decide_eq_true_eq, Bool.not_eq_true', List.isEmpty_eq_false_iff] at h
    rcases List.mem_cons.1 hl with rfl | hl
    · exact ⟨h.1.1.1.1.1, h.1.1.1.2, by have := h.1.1.2; simp only; omega, h.1.2⟩
    · exact shp_mem r _ _ h.2 l hl
/-- what a shaped pattern's lists are -/
theorem shaped_all {p : Pt} (h : shaped p = true) : p.b0.length ≤ 2 ∧ p.b1.length ≤ 2 ∧ 0 < p.ln.length ∧ p.ln.length ≤ 24 ∧ ∀ l ∈ p.ln, (l.1 = 0 ∨ l.1 = 1) ∧ l.2 ≠ [] ∧ l.2.length ≤ 24 ∧ l.2.all isTok = true := by
  unfold shaped at h
  simp only [Bool.and_eq_true, Bool.not_eq_true', List.isEmpty_eq_false_iff] at h
  refine ⟨ahd_len h.1.1.1, ahd_len h.1.1.2, List.length_pos_iff.2 h.1.2, ?_, shp_mem _ _ _ h.2⟩
  rcases shp_len _ _ _ h.2 with h2 | h2
  · omega
  · exact absurd h2 h.1.2
theorem getD_mem {L : List Ln} {i : Nat} (h : i < L.length) : L.getD i (0, []) ∈ L := by simp [List.getD, h]
theorem bef_size (s : ByteArray) (side : Int) (l : List Int) (h : l.length ≤ 2) : (bef s side l).size ≤ s.size + 16 := by
  have := row_size side l
  unfold bef
  split
  · omega
  · rw [ByteArray.size_append]; omega
theorem txH_size {p : Pt} (hs : shaped p = true) (hn : p.nm.size ≤ 4096) : (txH p).size ≤ 4136 := by
  obtain ⟨h0, h1, -⟩ := shaped_all hs
  have e1 : (⟨#[58, 10]⟩ : ByteArray).size = 2 := rfl
  have e2 : (⟨#[32, 32, 46, 46, 46, 10]⟩ : ByteArray).size = 6 := rfl
  have a := bef_size (p.nm ++ ⟨#[58, 10]⟩) 0 p.b0 h0
  have b := bef_size (bef (p.nm ++ ⟨#[58, 10]⟩) 0 p.b0) 1 p.b1 h1
  rw [ByteArray.size_append, e1] at a
  unfold txH dots
  split
  · rw [ByteArray.size_append, e2]; omega
  · omega
theorem txN_size {p : Pt} (hs : shaped p = true) (hn : p.nm.size ≤ 4096) (i : Nat) (hi : i ≤ p.ln.length) : (txN p i).size ≤ 4136 + 126 * i := by
  induction i with
  | zero => exact txH_size hs hn
  | succ i ih =>
    have := ih (by omega)
    have h2 := ((shaped_all hs).2.2.2.2 _ (getD_mem (i := i) (by omega))).2.2.1
    have h3 := row_size (p.ln.getD i (0, [])).1 (p.ln.getD i (0, [])).2
    unfold txN
    rw [ByteArray.size_append]
    omega
end Go.Pat
/- texts cut at a byte, and the table's rows, az data -/
namespace Go.Pat
def byt (s : ByteArray) (i : Nat) : Nat := (s.data.toList.getD i 0).toNat
/-- what split has, and where it stands, behind i places -/
def splN (s : ByteArray) (c : Nat) : Nat → List ByteArray × Nat
  | 0 => ([], 0)
  | i + 1 => if i = s.size ∨ byt s i = c then ((splN s c i).1 ++ [s.extract (splN s c i).2 i], i + 1) else splN s c i
def spl (s : ByteArray) (c : Nat) : List ByteArray := (splN s c (s.size + 1)).1
theorem splN_le (s : ByteArray) (c : Nat) (i : Nat) : (splN s c i).2 ≤ i ∧ (splN s c i).1.length ≤ i := by
  induction i with
  | zero => exact ⟨Nat.le_refl _, Nat.le_refl _⟩
  | succ i ih =>
    unfold splN
    split
    · exact ⟨Nat.le_refl _, by simp; omega⟩
    · omega
theorem extract_size (s : ByteArray) (a b : Nat) : (s.extract a b).size ≤ b - a := by
  rw [ByteArray.size_extract]
  omega
theorem splN_mem (s : ByteArray) (c : Nat) (i : Nat) : ∀ x ∈ (splN s c i).1, x.size ≤ i := by
  induction i with
  | zero => intro x hx; simp [splN] at hx
  | succ i ih =>
    intro x hx
    unfold splN at hx
    split at hx
    · rcases List.mem_append.1 hx with h | h
      · have := ih x h; omega
      · obtain rfl : x = _ := by simpa using h
        have := extract_size s (splN s c i).2 i
        omega
    · have := ih x hx; omega
/-- the tokens whose word is x -/
def tokW (x : ByteArray) : Nat → List Int
  | 0 => []
  | k + 1 => if wrd (k + 1 : Nat) = x then tokW x k ++ [((k + 1 : Nat) : Int)] else tokW x k
def toks (s : ByteArray) : List Int := if s.size = 0 then [] else (spl s 32).flatMap fun x => tokW x 7
end Go.Pat
/- a text az a pattern, az data -/
namespace Go.Pat
def rwsN (s : ByteArray) : Nat → List ByteArray × Nat
  | 0 => ([], 0)
  | i + 1 => if byt s i = 10 then ((rwsN s i).1 ++ [s.extract (rwsN s i).2 i], i + 1) else rwsN s i
def rws (s : ByteArray) : List ByteArray × Nat := rwsN s s.size
theorem rwsN_le (s : ByteArray) (i : Nat) : (rwsN s i).2 ≤ i ∧ (rwsN s i).1.length ≤ i := by
  induction i with
  | zero => exact ⟨Nat.le_refl _, Nat.le_refl _⟩
  | succ i ih =>
    unfold rwsN
    split
    · exact ⟨Nat.le_refl _, by simp; omega⟩
    · omega
theorem rwsN_mem (s : ByteArray) (i : Nat) : ∀ x ∈ (rwsN s i).1, x.size ≤ i := by
  induction i with
  | zero => intro x hx; simp [rwsN] at hx
  | succ i ih =>
    intro x hx
    unfold rwsN at hx
    split at hx
    · rcases List.mem_append.1 hx with h | h
      · have := ih x h; omega
      · obtain rfl : x = _ := by simpa using h
        have := extract_size s (rwsN s i).2 i
        omega
    · have := ih x hx; omega
/-- how many bytes stand ahead of the first comma -/
def cm : List UInt8 → Nat
  | [] => 0
  | b :: r => if b.toNat = 44 then 0 else cm r + 1
def cma (s : ByteArray) : Nat := cm s.data.toList
theorem cm_le : ∀ l : List UInt8, cm l ≤ l.length
  | [] => Nat.le_refl _
  | b :: r => by
    have := cm_le r
    unfold cm
    split
    · omega
    · simp; omega
theorem cma_le (s : ByteArray) : cma s ≤ s.size := by have := cm_le s.data.toList; rw [Array.length_toList] at this; exact this
theorem cm_lt : ∀ (l : List UInt8) (n : Nat), n < cm l → (l.getD n 0).toNat ≠ 44
  | [], n, h => by simp [cm] at h
  | b :: r, n, h => by
    unfold cm at h
    split at h
    · omega
    · rename_i hb
      cases n with
      | zero => simpa using hb
      | succ n => have := cm_lt r n (by omega); simpa using this
theorem cm_at : ∀ (l : List UInt8), cm l < l.length → (l.getD (cm l) 0).toNat = 44
  | [], h => by simp at h
  | b :: r, h => by
    unfold cm at h ⊢
    split
    · rename_i hb; simpa using hb
    · rename_i hb
      rw [if_neg hb] at h
      have := cm_at r (by simpa using h)
      simpa using this
/-- the token whose word is x; 0: none -/
def tokO (x : ByteArray) : Nat → Nat
  | 0 => 0
  | k + 1 => if wrd ((k + 1 : Nat) : Int) = x then k + 1 else tokO x k
theorem tokO_le (x : ByteArray) (k : Nat) : tokO x k ≤ k := by
  induction k with
  | zero => exact Nat.le_refl _
  | succ k ih => unfold tokO; split <;> omega
def wdsN : Nat → ByteArray → Option (List Int)
  | 0, _ => none
  | f + 1, s =>
    if tokO (s.extract 0 (cma s)) 7 = 0 then none
    else if cma s = s.size then some [(tokO (s.extract 0 (cma s)) 7 : Int)]
    else if s.size ≤ cma s + 1 ∨ byt s (cma s + 1) ≠ 32 then none
    else (wdsN f (s.extract (cma s + 2) s.size)).map ((tokO (s.extract 0 (cma s)) 7 : Int) :: ·)
def wds (s : ByteArray) : Option (List Int) := wdsN (s.size + 1) s
def hdA : ByteArray := ⟨#[32, 32, 45, 62, 32]⟩
def hdB : ByteArray := ⟨#[32, 32, 60, 45, 32]⟩
def lin (s : ByteArray) : Option Ln :=
  if s.size < 5 then none
  else if s.extract 0 5 = hdA then (wds (s.extract 5 s.size)).map fun l => (0, l)
  else if s.extract 0 5 = hdB then (wds (s.extract 5 s.size)).map fun l => (1, l)
  else none
def dotR : ByteArray := ⟨#[32, 32, 46, 46, 46]⟩
def frmL : Nat → List ByteArray → Nat
  | _, [] => 1
  | i, r :: rs => if r = dotR then i + 1 else frmL (i + 1) rs
def frm (L : List ByteArray) : Nat := frmL 1 (L.drop 1)
def bfr : List ByteArray → List Int → List Int → Option (List Int × List Int)
  | [], b0, b1 => some (b0, b1)
  | r :: rs, b0, b1 => match lin r with
    | none => none
    | some (f, l) => if f = 0 then (if 0 < b0.length ∨ 0 < b1.length then none else bfr rs l b1) else (if 0 < b1.length then none else bfr rs b0 l)
def mls : List ByteArray → Option (List Ln)
  | [] => some []
  | r :: rs => match lin r with
    | none => none
    | some l => (mls rs).map (l :: ·)
def zPt : Pt := ⟨⟨#[]⟩, [], [], []⟩
def hdOk (h : ByteArray) : Bool := decide (h.size ≠ 0) && decide (byt h (h.size - 1) = 58) && isNm (h.extract 0 (h.size - 1))
/-- Parse -/
def prs (t : ByteArray) : Pt × Int :=
  if 4096 < t.size then (zPt, 8)
  else if (rws t).2 ≠ t.size ∨ (rws t).1.length = 0 then (zPt, 8)
  else if hdOk ((rws t).1.getD 0 ⟨#[]⟩) = false then (zPt, 8)
  else match bfr (((rws t).1.take (frm (rws t).1 - 1)).drop 1) [] [] with
    | none => (zPt, 8)
    | some (b0, b1) => if frm (rws t).1 = 2 then (zPt, 8) else match mls ((rws t).1.drop (frm (rws t).1)) with
      | none => (zPt, 8)
      | some ls => if chk ⟨((rws t).1.getD 0 ⟨#[]⟩).extract 0 (((rws t).1.getD 0 ⟨#[]⟩).size - 1), b0, b1, ls⟩ ≠ 0 then (zPt, chk ⟨((rws t).1.getD 0 ⟨#[]⟩).extract 0 (((rws t).1.getD 0 ⟨#[]⟩).size - 1), b0, b1, ls⟩) else (⟨((rws t).1.getD 0 ⟨#[]⟩).extract 0 (((rws t).1.getD 0 ⟨#[]⟩).size - 1), b0, b1, ls⟩, 0)
end Go.Pat
/- words that modify a pattern, az data -/
namespace Go.Pat
def pskW : ByteArray := ⟨#[112, 115, 107]⟩
def fbW : ByteArray := ⟨#[102, 97, 108, 108, 98, 97, 99, 107]⟩
/-- the number that i digits behind the third byte say -/
def dgN (s : ByteArray) : Nat → Option Nat
  | 0 => some 0
  | i + 1 => match dgN s i with
    | none => none
    | some n => if byt s (3 + i) < 48 ∨ 57 < byt s (3 + i) then none else some (10 * n + byt s (3 + i) - 48)
def nmb (s : ByteArray) : Int :=
  if s.size < 4 ∨ 6 < s.size then -1
  else if s.extract 0 3 ≠ pskW then -1
  else if byt s 3 = 48 ∧ 4 < s.size then -1
  else match dgN s (s.size - 3) with
    | none => -1
    | some n => (n : Int)
theorem dgN_le (s : ByteArray) : ∀ (i n : Nat), dgN s i = some n → n < 10 ^ i
  | 0, n, h => by simp [dgN] at h; omega
  | i + 1, n, h => by
    unfold dgN at h
    cases e : dgN s i with
    | none => rw [e] at h; cases h
    | some m =>
      rw [e] at h
      simp only at h
      split at h
      · cases h
      · injection h with h
        have := dgN_le s i m e
        rw [Nat.pow_succ]
        omega
theorem dgN_mono (s : ByteArray) : ∀ (k i : Nat), dgN s i = none → dgN s (i + k) = none
  | 0, i, h => h
  | k + 1, i, h => by
    have := dgN_mono s k i h
    show dgN s (i + k + 1) = none
    unfold dgN
    rw [this]
/-- the keys that fallback makes known -/
def cnt (l : List Int) (t : Int) : Nat := (l.filter fun x => decide ((x = 1) = (t = 1))).length
def kn (e s : Nat) : List Int := (if e = 1 then [1] else []) ++ (if s = 1 then [2] else [])
def eCnt (l : List Int) : Nat := (l.filter fun x => x == 1).length
def sCnt (l : List Int) : Nat := (l.filter fun x => !(x == 1)).length
def bck (p : Pt) : Option Pt := match p.ln with
  | [] => none
  | (f, ts) :: r =>
    let m := if f = 1 then p.b1 else p.b0
    if ahd ts = false then none
    else if 1 < eCnt ts + eCnt m ∨ 1 < sCnt ts + sCnt m then none
    else some (if f = 1 then ⟨p.nm, p.b0, kn (eCnt ts + eCnt m) (sCnt ts + sCnt m), r⟩ else ⟨p.nm, kn (eCnt ts + eCnt m) (sCnt ts + sCnt m), p.b1, r⟩)
/-- one word behind others: what comes, and the last number -/
def wd1 (first : Bool) (p : Pt) (last : Int) (w : ByteArray) : Option (Pt × Int) :=
  if w = fbW ∧ first = true then (bck p).map fun q => (q, last)
  else if nmb w < 0 ∨ nmb w ≤ last ∨ (p.ln.length : Int) < nmb w ∨ p.ln.length = 0 then none
  else if nmb w = 0 then some (⟨p.nm, p.b0, p.b1, p.ln.set 0 ((p.ln.getD 0 (0, [])).1, 7 :: (p.ln.getD 0 (0, [])).2)⟩, 0)
  else some (⟨p.nm, p.b0, p.b1, p.ln.set ((nmb w).toNat - 1) ((p.ln.getD ((nmb w).toNat - 1) (0, [])).1, (p.ln.getD ((nmb w).toNat - 1) (0, [])).2 ++ [7])⟩, nmb w)
def wdsM (p : Pt) (ws : List ByteArray) : Nat → Option (Pt × Int)
  | 0 => some (p, -1)
  | i + 1 => match wdsM p ws i with
    | none => none
    | some (q, l) => wd1 (decide (i = 0)) q l (ws.getD i ⟨#[]⟩)
def nmN (nm : ByteArray) (ws : List ByteArray) : Nat → ByteArray
  | 0 => nm
  | i + 1 => (if i = 0 then nmN nm ws i else nmN nm ws i ++ ⟨#[43]⟩) ++ ws.getD i ⟨#[]⟩
/-- Modify -/
def mdf (p : Pt) (ws : List ByteArray) : Pt × Int :=
  if chk p ≠ 0 then (zPt, chk p)
  else match wdsM p ws ws.length with
    | none => (zPt, 1)
    | some (q, _) => if chk q ≠ 0 then (zPt, chk q) else (⟨nmN p.nm ws ws.length, q.b0, q.b1, q.ln⟩, 0)
end Go.Pat
/- texts there and back, az data: rows -/
namespace Go.Pat
abbrev toL (s : ByteArray) : List UInt8 := s.data.toList
theorem toL_app (a b : ByteArray) : toL (a ++ b) = toL a ++ toL b := by simp [toL]
theorem toL_ext (s : ByteArray) (a b : Nat) : toL (s.extract a b) = ((toL s).take b).drop a := by
  simp [toL, ByteArray.data_extract, List.drop_take]
theorem toL_len (s : ByteArray) : (toL s).length = s.size := by simp [toL]
theorem toL_inj {a b : ByteArray} (h : toL a = toL b) : a = b := by
  cases a; cases b
  simpa [toL] using h
def NL (l : List UInt8) : Prop := ∀ x ∈ l, x.toNat ≠ 10
def JL : List (List UInt8) → List UInt8
  | [] => []
  | r :: rs => r ++ 10 :: JL rs
theorem JL_app : ∀ (A B : List (List UInt8)), JL (A ++ B) = JL A ++ JL B
  | [], B => rfl
  | a :: A, B => by simp [JL, JL_app A B]
theorem cut_unique : ∀ {a b x y : List UInt8}, a ++ 10 :: x = b ++ 10 :: y → NL a → NL b → a = b ∧ x = y
  | [], [], x, y, h, _, _ => ⟨rfl, by simpa using h⟩
  | [], b :: bs, x, y, h, _, hb => by
    injection h with h1 h2
    exact absurd (by rw [← h1]; rfl) (hb b (by simp))
  | a :: az, [], x, y, h, ha, _ => by
    injection h with h1 h2
    exact absurd (by rw [h1]; rfl) (ha a (by simp))
  | a :: az, b :: bs, x, y, h, ha, hb => by
    injection h with h1 h2
    obtain ⟨h3, h4⟩ := cut_unique h2 (fun z hz => ha z (by simp [hz])) (fun z hz => hb z (by simp [hz]))
    exact ⟨by rw [h1, h3], h4⟩
theorem JL_unique : ∀ {A B : List (List UInt8)} {r : List UInt8}, JL A = JL B ++ r → (∀ a ∈ A, NL a) → (∀ b ∈ B, NL b) → NL r → A = B ∧ r = []
  | [], [], r, h, _, _, _ => ⟨rfl, by simpa [JL] using h.symm⟩
  | [], b :: B, r, h, _, _, _ => by simp [JL] at h
  | a :: A, [], r, h, _, _, hr => by
    simp only [JL, List.nil_append] at h
    exact absurd rfl (hr 10 (by rw [← h]; simp))
  | a :: A, b :: B, r, h, ha, hb, hr => by
    simp only [JL, List.append_assoc, List.cons_append] at h
    obtain ⟨h1, h2⟩ := cut_unique h (ha a (by simp)) (hb b (by simp))
    obtain ⟨h3, h4⟩ := JL_unique h2 (fun z hz => ha z (by simp [hz])) (fun z hz => hb z (by simp [hz])) hr
    exact ⟨by rw [h1, h3], h4⟩
theorem rwsN_inv (s : ByteArray) (i : Nat) (hi : i ≤ s.size) : (toL s).take i = JL ((rwsN s i).1.map toL) ++ ((toL s).take i).drop (rwsN s i).2 ∧ (∀ r ∈ (rwsN s i).1, NL (toL r)) ∧ NL (((toL s).take i).drop (rwsN s i).2) := by
  induction i with
  | zero => simp [rwsN, JL, NL]
  | succ i ih =>
    obtain ⟨h1, h2, h3⟩ := ih (by omega)
    have hk := (rwsN_le s i).1
    have hlen : i < (toL s).length := by rw [toL_len]; omega
    obtain ⟨c, hc⟩ : ∃ c, (toL s)[i]? = some c := ⟨_, List.getElem?_eq_getElem hlen⟩
    have htk : (toL s).take (i + 1) = (toL s).take i ++ [c] := by rw [List.take_add_one, hc]; rfl
    have hby : byt s i = c.toNat := by unfold byt; rw [List.getD_eq_getElem?_getD, hc]; rfl
    have hl : ((toL s).take i).length = i := by rw [List.length_take]; omega
    unfold rwsN
    split
    · rename_i h10
      have hc10 : c = 10 := by
        apply UInt8.toNat_inj.1
        rw [← hby, h10]; rfl
      have hd : ((toL s).take (i + 1)).drop (i + 1) = [] := List.drop_eq_nil_of_le (by rw [List.length_take]; omega)
      refine ⟨?_, ?_, ?_⟩
      · simp only [hd, List.append_nil, List.map_append, List.map_cons, List.map_nil, JL_app, toL_ext]
        rw [htk, hc10]
        simp only [JL]
        conv => lhs; rw [h1]
        simp
      · intro r hr
        rcases List.mem_append.1 hr with h | h
        · exact h2 r h
        · obtain rfl : r = _ := by simpa using h
          rw [toL_ext]
          exact h3
      · rw [hd]; intro x hx; simp at hx
    · rename_i h10
      have hd : ((toL s).take (i + 1)).drop (rwsN s i).2 = ((toL s).take i).drop (rwsN s i).2 ++ [c] := by
        rw [htk, List.drop_append_of_le_length (by omega)]
      refine ⟨?_, h2, ?_⟩
      · rw [hd, ← List.append_assoc, ← h1, htk]
      · rw [hd]
        intro x hx
        rcases List.mem_append.1 hx with h | h
        · exact h3 x h
        · obtain rfl : x = c := by simpa using h
          rw [← hby]; exact h10
/-- rows, and the text that they make -/
theorem rws_join {s : ByteArray} {A : List ByteArray} (h : toL s = JL (A.map toL)) (hA : ∀ a ∈ A, NL (toL a)) : rws s = (A, s.size) := by
  obtain ⟨h1, h2, h3⟩ := rwsN_inv s s.size (Nat.le_refl _)
  have ht : (toL s).take s.size = toL s := List.take_of_length_le (by rw [toL_len]; exact Nat.le_refl _)
  rw [ht] at h1 h3
  obtain ⟨h4, h5⟩ := JL_unique (h.symm.trans h1) (fun a ha => by obtain ⟨x, hx, rfl⟩ := List.mem_map.1 ha; exact hA x hx) (fun a ha => by obtain ⟨x, hx, rfl⟩ := List.mem_map.1 ha; exact h2 x hx) h3
  have h6 : s.size ≤ (rwsN s s.size).2 := by
    have := List.drop_eq_nil_iff.1 h5
    rw [toL_len] at this
    exact this
  have h7 := (rwsN_le s s.size).1
  refine Prod.ext ?_ (by show (rwsN s s.size).2 = s.size; omega)
  show (rwsN s s.size).1 = A
  have hinj : ∀ (X Y : List ByteArray), X.map toL = Y.map toL → X = Y := fun X => by
    induction X with
    | nil => intro Y h; cases Y with | nil => rfl | cons y Y => simp at h
    | cons x X ih =>
      intro Y h
      cases Y with
      | nil => simp at h
      | cons y Y =>
        simp only [List.map_cons, List.cons.injEq] at h
        rw [toL_inj h.1, ih Y h.2]
  exact hinj _ _ h4.symm
theorem rws_back {s : ByteArray} (h : (rws s).2 = s.size) : toL s = JL ((rws s).1.map toL) ∧ ∀ a ∈ (rws s).1, NL (toL a) := by
  obtain ⟨h1, h2, h3⟩ := rwsN_inv s s.size (Nat.le_refl _)
  have ht : (toL s).take s.size = toL s := List.take_of_length_le (by rw [toL_len]; exact Nat.le_refl _)
  have hk : (rwsN s s.size).2 = s.size := h
  rw [ht, hk] at h1
  have hd : (toL s).drop s.size = [] := List.drop_eq_nil_of_le (by rw [toL_len]; exact Nat.le_refl _)
  rw [hd, List.append_nil] at h1
  exact ⟨h1, h2⟩
end Go.Pat
/- the words of a modified pattern's name -/
namespace Go.Pat
theorem nmb_size {s : ByteArray} (h : 0 ≤ nmb s) : s.size ≤ 6 := by
  unfold nmb at h
  split at h
  · omega
  · omega
theorem wd1_size {b : Bool} {p : Pt} {l : Int} {s : ByteArray} {x : Pt × Int} (h : wd1 b p l s = some x) : s.size ≤ 8 := by
  unfold wd1 at h
  split at h
  · rename_i h1
    rw [h1.1]
    decide
  · split at h
    · cases h
    · rename_i _ h2
      have := nmb_size (s := s) (by omega)
      omega
theorem wdsM_pre {p : Pt} {ws : List ByteArray} : ∀ {i : Nat} {x : Pt × Int}, wdsM p ws i = some x → ∀ j, j < i → (ws.getD j ⟨#[]⟩).size ≤ 8
  | 0, x, h, j, hj => absurd hj (Nat.not_lt_zero _)
  | i + 1, x, h, j, hj => by
    unfold wdsM at h
    cases e : wdsM p ws i with
    | none => rw [e] at h; cases h
    | some y =>
      obtain ⟨q, l⟩ := y
      rw [e] at h
      simp only at h
      by_cases hji : j = i
      · rw [hji]; exact wd1_size h
      · exact wdsM_pre e j (by omega)
theorem wdsM_none {p : Pt} {ws : List ByteArray} {i : Nat} (h : wdsM p ws i = none) : ∀ k, wdsM p ws (i + k) = none
  | 0 => h
  | k + 1 => by
    show wdsM p ws (i + k + 1) = none
    unfold wdsM
    rw [wdsM_none h k]
theorem join_snoc (sep : List UInt8) : ∀ (xs : List (List UInt8)) (y : List UInt8), Lib.join (xs ++ [y]) sep = if xs = [] then y else Lib.join xs sep ++ sep ++ y
  | [], y => by simp [Lib.join, List.intercalate]
  | [x], y => by simp [Lib.join, List.intercalate]
  | x :: z :: r, y => by
    have ih := join_snoc sep (z :: r) y
    rw [if_neg (by simp)] at ih ⊢
    have e : ∀ (a b : List UInt8) (l : List (List UInt8)), Lib.join (a :: b :: l) sep = a ++ sep ++ Lib.join (b :: l) sep := fun a b l => by simp [Lib.join, List.intercalate]
    rw [List.cons_append, List.cons_append, e, ← List.cons_append, ih, e]
    simp
theorem nmN_join (nm : ByteArray) (ws : List ByteArray) : ∀ i, i ≤ ws.length → toL (nmN nm ws i) = toL nm ++ Lib.join ((ws.take i).map toL) [43]
  | 0, _ => by simp [nmN, Lib.join, List.intercalate]
  | i + 1, h => by
    have ih := nmN_join nm ws i (by omega)
    have hi : i < ws.length := by omega
    rw [List.take_add_one, List.getElem?_eq_getElem hi]
    simp only [Option.toList, List.map_append, List.map_cons, List.map_nil]
    rw [join_snoc]
    have hg : ws.getD i ⟨#[]⟩ = ws[i] := by simp [List.getD, hi]
    unfold nmN
    rw [hg]
    have ha : ∀ a b : ByteArray, toL (a ++ b) = toL a ++ toL b := fun a b => by simp [toL]
    by_cases h0 : i = 0
    · subst h0
      rw [if_pos rfl, if_pos (by simp), ha]
      rfl
    · rw [if_neg h0, if_neg (by simp [h0]; intro e; rw [e] at hi; simp at hi), ha, ha, ih]
      simp [toL]
theorem join_len : ∀ (xs : List (List UInt8)), (∀ x ∈ xs, x.length ≤ 8) → (Lib.join xs [43]).length ≤ 9 * xs.length
  | [], _ => by simp [Lib.join, List.intercalate]
  | [x], h => by
    have := h x (by simp)
    simp [Lib.join, List.intercalate]
    omega
  | x :: z :: r, h => by
    have ih := join_len (z :: r) (fun y hy => h y (List.mem_cons_of_mem _ hy))
    have h1 := h x List.mem_cons_self
    have e : Lib.join (x :: z :: r) [43] = x ++ [43] ++ Lib.join (z :: r) [43] := by simp [Lib.join, List.intercalate]
    rw [e, List.length_append, List.length_append]
    simp only [List.length_cons, List.length_nil] at ih ⊢
    omega
end Go.Pat
