import Derived.KernelRfl
import Derived.Test.YtchnkpgkckadmabDoorMoac
import Derived.Test.YtchnkpgkckadmabDoorMoaa
import Derived.Test.YtchnkpgkckadmabDoorMoab
/- the program's table of texts, az data -/
namespace Go.Pat
set_option linter.unusedVariables false
set_option maxRecDepth 100000
/-- the program's table: names and texts -/
def tbl : List (ByteArray × ByteArray) := [
  (⟨#[78]⟩, ⟨#[78, 58, 10, 32, 32, 60, 45, 32, 115, 10, 32, 32, 46, 46, 46, 10, 32, 32, 45, 62, 32, 101, 44, 32, 101, 115, 10]⟩),
  (⟨#[75]⟩, ⟨#[75, 58, 10, 32, 32, 45, 62, 32, 115, 10, 32, 32, 60, 45, 32, 115, 10, 32, 32, 46, 46, 46, 10, 32, 32, 45, 62, 32, 101, 44, 32, 101, 115, 44, 32, 115, 115, 10]⟩),
  (⟨#[88]⟩, ⟨#[88, 58, 10, 32, 32, 60, 45, 32, 115, 10, 32, 32, 46, 46, 46, 10, 32, 32, 45, 62, 32, 101, 44, 32, 101, 115, 44, 32, 115, 44, 32, 115, 115, 10]⟩),
  (⟨#[78, 78]⟩, ⟨#[78, 78, 58, 10, 32, 32, 45, 62, 32, 101, 10, 32, 32, 60, 45, 32, 101, 44, 32, 101, 101, 10]⟩),
  (⟨#[78, 75]⟩, ⟨#[78, 75, 58, 10, 32, 32, 60, 45, 32, 115, 10, 32, 32, 46, 46, 46, 10, 32, 32, 45, 62, 32, 101, 44, 32, 101, 115, 10, 32, 32, 60, 45, 32, 101, 44, 32, 101, 101, 10]⟩),
  (⟨#[78, 88]⟩, ⟨#[78, 88, 58, 10, 32, 32, 45, 62, 32, 101, 10, 32, 32, 60, 45, 32, 101, 44, 32, 101, 101, 44, 32, 115, 44, 32, 101, 115, 10]⟩),
  (⟨#[88, 78]⟩, ⟨#[88, 78, 58, 10, 32, 32, 45, 62, 32, 101, 10, 32, 32, 60, 45, 32, 101, 44, 32, 101, 101, 10, 32, 32, 45, 62, 32, 115, 44, 32, 115, 101, 10]⟩),
  (⟨#[88, 75]⟩, ⟨#[88, 75, 58, 10, 32, 32, 60, 45, 32, 115, 10, 32, 32, 46, 46, 46, 10, 32, 32, 45, 62, 32, 101, 44, 32, 101, 115, 10, 32, 32, 60, 45, 32, 101, 44, 32, 101, 101, 10, 32, 32, 45, 62, 32, 115, 44, 32, 115, 101, 10]⟩),
  (⟨#[88, 88]⟩, ⟨#[88, 88, 58, 10, 32, 32, 45, 62, 32, 101, 10, 32, 32, 60, 45, 32, 101, 44, 32, 101, 101, 44, 32, 115, 44, 32, 101, 115, 10, 32, 32, 45, 62, 32, 115, 44, 32, 115, 101, 10]⟩),
  (⟨#[75, 78]⟩, ⟨#[75, 78, 58, 10, 32, 32, 45, 62, 32, 115, 10, 32, 32, 46, 46, 46, 10, 32, 32, 45, 62, 32, 101, 10, 32, 32, 60, 45, 32, 101, 44, 32, 101, 101, 44, 32, 115, 101, 10]⟩),
  (⟨#[75, 75]⟩, ⟨#[75, 75, 58, 10, 32, 32, 45, 62, 32, 115, 10, 32, 32, 60, 45, 32, 115, 10, 32, 32, 46, 46, 46, 10, 32, 32, 45, 62, 32, 101, 44, 32, 101, 115, 44, 32, 115, 115, 10, 32, 32, 60, 45, 32, 101, 44, 32, 101, 101, 44, 32, 115, 101, 10]⟩),
  (⟨#[75, 88]⟩, ⟨#[75, 88, 58, 10, 32, 32, 45, 62, 32, 115, 10, 32, 32, 46, 46, 46, 10, 32, 32, 45, 62, 32, 101, 10, 32, 32, 60, 45, 32, 101, 44, 32, 101, 101, 44, 32, 115, 101, 44, 32, 115, 44, 32, 101, 115, 10]⟩),
  (⟨#[73, 78]⟩, ⟨#[73, 78, 58, 10, 32, 32, 45, 62, 32, 101, 44, 32, 115, 10, 32, 32, 60, 45, 32, 101, 44, 32, 101, 101, 44, 32, 115, 101, 10]⟩),
  (⟨#[73, 75]⟩, ⟨#[73, 75, 58, 10, 32, 32, 60, 45, 32, 115, 10, 32, 32, 46, 46, 46, 10, 32, 32, 45, 62, 32, 101, 44, 32, 101, 115, 44, 32, 115, 44, 32, 115, 115, 10, 32, 32, 60, 45, 32, 101, 44, 32, 101, 101, 44, 32, 115, 101, 10]⟩),
  (⟨#[73, 88]⟩, ⟨#[73, 88, 58, 10, 32, 32, 45, 62, 32, 101, 44, 32, 115, 10, 32, 32, 60, 45, 32, 101, 44, 32, 101, 101, 44, 32, 115, 101, 44, 32, 115, 44, 32, 101, 115, 10]⟩),
  (⟨#[78, 75, 49]⟩, ⟨#[78, 75, 49, 58, 10, 32, 32, 60, 45, 32, 115, 10, 32, 32, 46, 46, 46, 10, 32, 32, 45, 62, 32, 101, 10, 32, 32, 60, 45, 32, 101, 44, 32, 101, 101, 44, 32, 101, 115, 10]⟩),
  (⟨#[78, 88, 49]⟩, ⟨#[78, 88, 49, 58, 10, 32, 32, 45, 62, 32, 101, 10, 32, 32, 60, 45, 32, 101, 44, 32, 101, 101, 44, 32, 115, 10, 32, 32, 45, 62, 32, 101, 115, 10]⟩),
  (⟨#[88, 49, 78]⟩, ⟨#[88, 49, 78, 58, 10, 32, 32, 45, 62, 32, 101, 10, 32, 32, 60, 45, 32, 101, 44, 32, 101, 101, 10, 32, 32, 45, 62, 32, 115, 10, 32, 32, 60, 45, 32, 115, 101, 10]⟩),
  (⟨#[88, 49, 75]⟩, ⟨#[88, 49, 75, 58, 10, 32, 32, 60, 45, 32, 115, 10, 32, 32, 46, 46, 46, 10, 32, 32, 45, 62, 32, 101, 44, 32, 101, 115, 10, 32, 32, 60, 45, 32, 101, 44, 32, 101, 101, 10, 32, 32, 45, 62, 32, 115, 10, 32, 32, 60, 45, 32, 115, 101, 10]⟩),
  (⟨#[88, 75, 49]⟩, ⟨#[88, 75, 49, 58, 10, 32, 32, 60, 45, 32, 115, 10, 32, 32, 46, 46, 46, 10, 32, 32, 45, 62, 32, 101, 10, 32, 32, 60, 45, 32, 101, 44, 32, 101, 101, 44, 32, 101, 115, 10, 32, 32, 45, 62, 32, 115, 44, 32, 115, 101, 10]⟩),
  (⟨#[88, 49, 75, 49]⟩, ⟨#[88, 49, 75, 49, 58, 10, 32, 32, 60, 45, 32, 115, 10, 32, 32, 46, 46, 46, 10, 32, 32, 45, 62, 32, 101, 10, 32, 32, 60, 45, 32, 101, 44, 32, 101, 101, 44, 32, 101, 115, 10, 32, 32, 45, 62, 32, 115, 10, 32, 32, 60, 45, 32, 115, 101, 10]⟩),
  (⟨#[88, 49, 88]⟩, ⟨#[88, 49, 88, 58, 10, 32, 32, 45, 62, 32, 101, 10, 32, 32, 60, 45, 32, 101, 44, 32, 101, 101, 44, 32, 115, 44, 32, 101, 115, 10, 32, 32, 45, 62, 32, 115, 10, 32, 32, 60, 45, 32, 115, 101, 10]⟩),
  (⟨#[88, 88, 49]⟩, ⟨#[88, 88, 49, 58, 10, 32, 32, 45, 62, 32, 101, 10, 32, 32, 60, 45, 32, 101, 44, 32, 101, 101, 44, 32, 115, 10, 32, 32, 45, 62, 32, 101, 115, 44, 32, 115, 44, 32, 115, 101, 10]⟩),
  (⟨#[88, 49, 88, 49]⟩, ⟨#[88, 49, 88, 49, 58, 10, 32, 32, 45, 62, 32, 101, 10, 32, 32, 60, 45, 32, 101, 44, 32, 101, 101, 44, 32, 115, 10, 32, 32, 45, 62, 32, 101, 115, 44, 32, 115, 10, 32, 32, 60, 45, 32, 115, 101, 10]⟩),
  (⟨#[75, 49, 78]⟩, ⟨#[75, 49, 78, 58, 10, 32, 32, 45, 62, 32, 115, 10, 32, 32, 46, 46, 46, 10, 32, 32, 45, 62, 32, 101, 10, 32, 32, 60, 45, 32, 101, 44, 32, 101, 101, 10, 32, 32, 45, 62, 32, 115, 101, 10]⟩),
  (⟨#[75, 49, 75]⟩, ⟨#[75, 49, 75, 58, 10, 32, 32, 45, 62, 32, 115, 10, 32, 32, 60, 45, 32, 115, 10, 32, 32, 46, 46, 46, 10, 32, 32, 45, 62, 32, 101, 44, 32, 101, 115, 10, 32, 32, 60, 45, 32, 101, 44, 32, 101, 101, 10, 32, 32, 45, 62, 32, 115, 101, 10]⟩),
  (⟨#[75, 75, 49]⟩, ⟨#[75, 75, 49, 58, 10, 32, 32, 45, 62, 32, 115, 10, 32, 32, 60, 45, 32, 115, 10, 32, 32, 46, 46, 46, 10, 32, 32, 45, 62, 32, 101, 10, 32, 32, 60, 45, 32, 101, 44, 32, 101, 101, 44, 32, 115, 101, 44, 32, 101, 115, 10]⟩),
  (⟨#[75, 49, 75, 49]⟩, ⟨#[75, 49, 75, 49, 58, 10, 32, 32, 45, 62, 32, 115, 10, 32, 32, 60, 45, 32, 115, 10, 32, 32, 46, 46, 46, 10, 32, 32, 45, 62, 32, 101, 10, 32, 32, 60, 45, 32, 101, 44, 32, 101, 101, 44, 32, 101, 115, 10, 32, 32, 45, 62, 32, 115, 101, 10]⟩),
  (⟨#[75, 49, 88]⟩, ⟨#[75, 49, 88, 58, 10, 32, 32, 45, 62, 32, 115, 10, 32, 32, 46, 46, 46, 10, 32, 32, 45, 62, 32, 101, 10, 32, 32, 60, 45, 32, 101, 44, 32, 101, 101, 44, 32, 115, 44, 32, 101, 115, 10, 32, 32, 45, 62, 32, 115, 101, 10]⟩),
  (⟨#[75, 88, 49]⟩, ⟨#[75, 88, 49, 58, 10, 32, 32, 45, 62, 32, 115, 10, 32, 32, 46, 46, 46, 10, 32, 32, 45, 62, 32, 101, 10, 32, 32, 60, 45, 32, 101, 44, 32, 101, 101, 44, 32, 115, 101, 44, 32, 115, 10, 32, 32, 45, 62, 32, 101, 115, 10]⟩),
  (⟨#[75, 49, 88, 49]⟩, ⟨#[75, 49, 88, 49, 58, 10, 32, 32, 45, 62, 32, 115, 10, 32, 32, 46, 46, 46, 10, 32, 32, 45, 62, 32, 101, 10, 32, 32, 60, 45, 32, 101, 44, 32, 101, 101, 44, 32, 115, 10, 32, 32, 45, 62, 32, 115, 101, 44, 32, 101, 115, 10]⟩),
  (⟨#[73, 49, 78]⟩, ⟨#[73, 49, 78, 58, 10, 32, 32, 45, 62, 32, 101, 44, 32, 115, 10, 32, 32, 60, 45, 32, 101, 44, 32, 101, 101, 10, 32, 32, 45, 62, 32, 115, 101, 10]⟩),
  (⟨#[73, 49, 75]⟩, ⟨#[73, 49, 75, 58, 10, 32, 32, 60, 45, 32, 115, 10, 32, 32, 46, 46, 46, 10, 32, 32, 45, 62, 32, 101, 44, 32, 101, 115, 44, 32, 115, 10, 32, 32, 60, 45, 32, 101, 44, 32, 101, 101, 10, 32, 32, 45, 62, 32, 115, 101, 10]⟩),
  (⟨#[73, 75, 49]⟩, ⟨#[73, 75, 49, 58, 10, 32, 32, 60, 45, 32, 115, 10, 32, 32, 46, 46, 46, 10, 32, 32, 45, 62, 32, 101, 44, 32, 115, 10, 32, 32, 60, 45, 32, 101, 44, 32, 101, 101, 44, 32, 115, 101, 44, 32, 101, 115, 10]⟩),
  (⟨#[73, 49, 75, 49]⟩, ⟨#[73, 49, 75, 49, 58, 10, 32, 32, 60, 45, 32, 115, 10, 32, 32, 46, 46, 46, 10, 32, 32, 45, 62, 32, 101, 44, 32, 115, 10, 32, 32, 60, 45, 32, 101, 44, 32, 101, 101, 44, 32, 101, 115, 10, 32, 32, 45, 62, 32, 115, 101, 10]⟩),
  (⟨#[73, 49, 88]⟩, ⟨#[73, 49, 88, 58, 10, 32, 32, 45, 62, 32, 101, 44, 32, 115, 10, 32, 32, 60, 45, 32, 101, 44, 32, 101, 101, 44, 32, 115, 44, 32, 101, 115, 10, 32, 32, 45, 62, 32, 115, 101, 10]⟩),
  (⟨#[73, 88, 49]⟩, ⟨#[73, 88, 49, 58, 10, 32, 32, 45, 62, 32, 101, 44, 32, 115, 10, 32, 32, 60, 45, 32, 101, 44, 32, 101, 101, 44, 32, 115, 101, 44, 32, 115, 10, 32, 32, 45, 62, 32, 101, 115, 10]⟩),
  (⟨#[73, 49, 88, 49]⟩, ⟨#[73, 49, 88, 49, 58, 10, 32, 32, 45, 62, 32, 101, 44, 32, 115, 10, 32, 32, 60, 45, 32, 101, 44, 32, 101, 101, 44, 32, 115, 10, 32, 32, 45, 62, 32, 115, 101, 44, 32, 101, 115, 10]⟩)]
/-- the place in 'tab' of each of the program's names -/
def tbI (k : ByteArray) : Option Pt := tab.find? (fun p => decide (p.nm = k))
theorem tbl_prs : (tbl.map fun e => prs e.2) = tbl.map fun e => ((tbI e.1).getD zPt, 0) := by kernel_rfl
theorem tbl_apart : (decide (tbl.Pairwise fun a b => ¬ a.1 = b.1)) = true := by kernel_rfl
theorem tbl_small : (tbl.all fun e => decide (e.1.size ≤ 100) && decide (e.2.size ≤ 4096)) = true := by kernel_rfl
theorem tab_in : (tab.all fun p => tbl.any fun e => decide (e.1 = p.nm)) = true := by kernel_rfl
theorem tbl_in : (tbl.all fun e => (tbI e.1).isSome) = true := by kernel_rfl
theorem tbl_len : tbl.length = 38 := rfl
/-- the program's look-up -/
def tbF (k : ByteArray) : Option (ByteArray × ByteArray) := tbl.find? fun e => decide (e.1 = k)
theorem tbF_some {k : ByteArray} {e : ByteArray × ByteArray} (h : tbF k = some e) : e.1 = k ∧ e ∈ tbl := by
  have h1 := List.find?_some h
  exact ⟨by simpa using h1, List.mem_of_find?_eq_some h⟩
theorem tbl_at {e : ByteArray × ByteArray} (h : e ∈ tbl) : prs e.2 = ((tbI e.1).getD zPt, 0) ∧ (tbI e.1).isSome = true ∧ e.2.size ≤ 4096 := by
  have h1 := tbl_prs
  rw [List.map_inj_left] at h1
  have h2 := List.all_eq_true.1 tbl_in e h
  have h3 := List.all_eq_true.1 tbl_small e h
  simp only [Bool.and_eq_true, decide_eq_true_eq] at h3
  exact ⟨h1 e h, h2, h3.2⟩
theorem tbF_none {k : ByteArray} (h : tbF k = none) : tbI k = none := by
  unfold tbF at h
  unfold tbI
  rw [List.find?_eq_none] at h ⊢
  intro p hp
  have h1 := List.all_eq_true.1 tab_in p hp
  rw [List.any_eq_true] at h1
  obtain ⟨e, he, h2⟩ := h1
  have h3 := h e he
  simp only [decide_eq_true_eq] at h2 h3 ⊢
  exact fun hk => h3 (h2.trans hk)
end Go.Pat
/- names of protocols, as data: the document's chapter 16 -/
namespace Go.Pat
def upB (c : Nat) : Bool := (decide (65 ≤ c) && decide (c ≤ 90)) || (decide (48 ≤ c) && decide (c ≤ 57))
def loB (c : Nat) : Bool := (decide (97 ≤ c) && decide (c ≤ 122)) || (decide (48 ≤ c) && decide (c ≤ 57))
def dgB (c : Nat) : Bool := decide (48 ≤ c) && decide (c ≤ 57)
def hdN : ByteArray := ⟨#[78, 111, 105, 115, 101, 95]⟩
def tlN : ByteArray := ⟨#[95, 50, 53, 53, 49, 57, 95, 67, 104, 97, 67, 104, 97, 80, 111, 108, 121, 95, 66, 76, 65, 75, 69, 50, 115]⟩
/-- Words' loop, behind k rounds: where the word begins, the words so far -/
def wst (s : ByteArray) : Nat → Option (Nat × List ByteArray)
  | 0 => some (0, [])
  | k + 1 => match wst s k with
    | none => none
    | some (f, out) =>
      if k < s.size ∧ loB (byt s k) = true then some (f, out)
      else if k < s.size ∧ byt s k ≠ 43 then none
      else if (s.extract f k).size = 0 ∨ dgB (byt (s.extract f k) 0) = true then none
      else some (k + 1, out ++ [s.extract f k])
def nwd (s : ByteArray) : Option (List ByteArray) := if s.size = 0 then some [] else (wst s (s.size + 1)).map (·.2)
def nfl (t : ByteArray) : Option ByteArray :=
  if 255 < t.size ∨ t.size < 31 then none
  else if t.extract 0 6 ≠ hdN ∨ t.extract (t.size - 25) t.size ≠ tlN then none
  else some (t.extract 6 (t.size - 25))
/-- how many signs of a base stand ahead -/
def nup (s : ByteArray) : Nat := ((toL s).takeWhile fun c => upB c.toNat).length
def nprs (t : ByteArray) : Pt × Int :=
  match nfl t with
  | none => (zPt, 13)
  | some full => match tbI (full.extract 0 (nup full)), nwd (full.extract (nup full) full.size) with
    | some p, some ws => if ws.length = 0 then (p, 0) else if (mdf p ws).2 ≠ 0 then (zPt, 13) else ((mdf p ws).1, 0)
    | _, _ => (zPt, 13)
def nprn (full : ByteArray) : ByteArray × Int := if (nprs (hdN ++ full ++ tlN)).2 ≠ 0 then (⟨#[]⟩, 13) else (hdN ++ full ++ tlN, 0)
theorem takeW_len (p : UInt8 → Bool) : ∀ (l : List UInt8) (n : Nat), (∀ j, j < n → p (l.getD j 0) = true) → n ≤ l.length → (n = l.length ∨ p (l.getD n 0) = false) → (l.takeWhile p).length = n
  | [], n, _, hn, _ => by simp at hn; simp [hn]
  | a :: l, 0, _, _, he => by
    rcases he with he | he
    · simp at he
    · have h0 : p a = false := he
      simp [List.takeWhile, h0]
  | a :: l, n + 1, h, hn, he => by
    have h0 : p a = true := h 0 (by omega)
    have ih := takeW_len p l n (fun j hj => h (j + 1) (by omega)) (by simpa using hn) (by
      rcases he with he | he
      · left; simpa using he
      · right; exact he)
    simp [List.takeWhile, h0, ih]
theorem nup_at {s : ByteArray} {n : Nat} (h : ∀ j, j < n → upB (byt s j) = true) (hn : n ≤ s.size) (he : n = s.size ∨ upB (byt s n) = false) : nup s = n := by
  have hl : (toL s).length = s.size := toL_len s
  exact takeW_len _ (toL s) n h (by omega) (by rw [hl]; exact he)
theorem nup_le (s : ByteArray) : nup s ≤ s.size := by
  have hl : (toL s).length = s.size := toL_len s
  unfold nup
  rw [← hl]
  exact List.Sublist.length_le (List.takeWhile_sublist _)
theorem wst_none {s : ByteArray} {k : Nat} (h : wst s k = none) : ∀ m, k ≤ m → wst s m = none
  | 0, hm => by
    obtain rfl : k = 0 := by omega
    exact h
  | m + 1, hm => by
    by_cases e : k = m + 1
    · rw [← e]; exact h
    · unfold wst
      rw [wst_none h m (by omega)]
theorem nwd_none {s : ByteArray} {k : Nat} (h0 : s.size ≠ 0) (h : wst s k = none) (hk : k ≤ s.size + 1) : nwd s = none := by
  unfold nwd
  rw [if_neg h0, wst_none h _ hk]
  rfl
theorem wst_step {s : ByteArray} {k f : Nat} {out : List ByteArray} (h : wst s k = some (f, out)) : wst s (k + 1) = if k < s.size ∧ loB (byt s k) = true then some (f, out) else if k < s.size ∧ byt s k ≠ 43 then none else if (s.extract f k).size = 0 ∨ dgB (byt (s.extract f k) 0) = true then none else some (k + 1, out ++ [s.extract f k]) := by
  conv => lhs; unfold wst
  rw [h]
end Go.Pat
/- what a valid pattern never has (P15.8), az numbers -/
namespace Go.Pat
/-- how often a token stands in a list -/
def nc (t : Int) : List Int → Nat
  | [] => 0
  | x :: r => (if x = t then 1 else 0) + nc t r
def cn (b : Bool) (t : Int) (l : List Int) : Nat := if b = true then nc t l else 0
def sdB (side s : Int) : Bool := decide (side < 0) || decide (side = s)
def cl (side t : Int) : List Ln → Nat
  | [] => 0
  | x :: r => cn (sdB side x.1) t x.2 + cl side t r
def cntP (p : Pt) (side t : Int) : Nat := cn (sdB side 0) t p.b0 + cn (sdB side 1) t p.b1 + cl side t p.ln
theorem nc_le (t : Int) (l : List Int) : nc t l ≤ l.length := by
  induction l with
  | nil => exact Nat.le_refl _
  | cons x r ih => simp only [nc, List.length_cons]; split <;> omega
theorem nc_app (t : Int) (a b : List Int) : nc t (a ++ b) = nc t a + nc t b := by
  induction a with
  | nil => simp [nc]
  | cons x r ih => simp only [List.cons_append, nc, ih]; omega
theorem nc_take (t : Int) (l : List Int) {k : Nat} (hk : k < l.length) : nc t (l.take (k + 1)) = nc t (l.take k) + if l.getD k 0 = t then 1 else 0 := by
  rw [List.take_add_one, nc_app, List.getElem?_eq_getElem hk]
  simp [nc, List.getD, hk]
theorem cl_app (side t : Int) (a b : List Ln) : cl side t (a ++ b) = cl side t a + cl side t b := by
  induction a with
  | nil => simp [cl]
  | cons x r ih => simp only [List.cons_append, cl, ih]; omega
theorem cl_take (side t : Int) (l : List Ln) {k : Nat} (hk : k < l.length) : cl side t (l.take (k + 1)) = cl side t (l.take k) + cn (sdB side (l.getD k (0, [])).1) t (l.getD k (0, [])).2 := by
  rw [List.take_add_one, cl_app, List.getElem?_eq_getElem hk]
  simp [cl, List.getD, hk]
/-- the mark of a token -/
def mkI (s : Nat) (t : Int) : Nat := if t = 1 then s else if t = 2 then 2 + s else 4 + t.toNat
def bn (b : Bool) : Nat := if b = true then 1 else 0
/-- marks and counts go together: e0 e1 s0 s1, and the four secrets -/
structure Mt (x : Sn) (c : Nat → Nat) : Prop where
  len : x.length = 12
  at' : ∀ i, i < 11 → bn (B x i) = c i
  r7 : B x 7 = true → B x 0 = true ∧ B x 1 = true
  r8 : B x 8 = true → B x 0 = true ∧ B x 3 = true
  r9 : B x 9 = true → B x 2 = true ∧ B x 1 = true
  ra : B x 10 = true → B x 2 = true ∧ B x 3 = true
theorem B_set (x : Sn) (i j : Nat) (h : i < x.length) : B (x.set i true) j = (decide (j = i) || B x j) := by
  unfold B
  by_cases e : j = i
  · subst e; simp [List.getD, h]
  · simp [List.getD, e, Ne.symm e]
theorem bn_t : bn true = 1 := rfl
theorem bn_f : bn false = 0 := rfl
theorem Mt.step {x : Sn} {c : Nat → Nat} (h : Mt x c) {s : Nat} (hs2 : s < 2) {t : Int} (ht : 1 ≤ t ∧ t ≤ 7) (hk : (tk x s t).2 = 0) : Mt (tk x s t).1 (fun i => c i + if i = mkI s t then 1 else 0) := by
  have hl := h.len
  have key : ∀ i, i < 11 → i = mkI s t → B x i = false → ((i = 7 → B x 0 = true ∧ B x 1 = true) ∧ (i = 8 → B x 0 = true ∧ B x 3 = true) ∧ (i = 9 → B x 2 = true ∧ B x 1 = true) ∧ (i = 10 → B x 2 = true ∧ B x 3 = true)) → Mt (x.set i true) (fun j => c j + if j = mkI s t then 1 else 0) := by
    intro i hi he hb hr
    obtain ⟨g7, g8, g9, ga⟩ := hr
    have hB := fun j => B_set x i j (by omega)
    refine ⟨by simp [hl], fun j hj => ?_, ?_, ?_, ?_, ?_⟩
    · rw [hB j, ← he]
      by_cases e : j = i
      · subst e
        have := h.at' j hj
        rw [hb, bn_f] at this
        simp [bn, ← this]
      · simp [e, h.at' j hj]
    all_goals
      intro hq
      rw [hB] at hq
      simp only [hB]
      simp only [Bool.or_eq_true, decide_eq_true_eq] at hq ⊢
      rcases hq with hq | hq
      · first
          | exact ⟨.inr (g7 hq.symm).1, .inr (g7 hq.symm).2⟩
          | exact ⟨.inr (g8 hq.symm).1, .inr (g8 hq.symm).2⟩
          | exact ⟨.inr (g9 hq.symm).1, .inr (g9 hq.symm).2⟩
          | exact ⟨.inr (ga hq.symm).1, .inr (ga hq.symm).2⟩
      · first
          | exact ⟨.inr (h.r7 hq).1, .inr (h.r7 hq).2⟩
          | exact ⟨.inr (h.r8 hq).1, .inr (h.r8 hq).2⟩
          | exact ⟨.inr (h.r9 hq).1, .inr (h.r9 hq).2⟩
          | exact ⟨.inr (h.ra hq).1, .inr (h.ra hq).2⟩
  unfold tk at hk ⊢
  by_cases h1 : t = 1
  · subst h1
    rw [if_pos rfl] at hk ⊢
    by_cases hb : B x s = true
    · rw [if_pos hb] at hk; simp at hk
    · rw [if_neg hb]
      exact key s (by omega) (by simp [mkI]) (by simpa using hb) ⟨fun e => by omega, fun e => by omega, fun e => by omega, fun e => by omega⟩
  rw [if_neg h1] at hk ⊢
  by_cases h2 : t = 2
  · subst h2
    rw [if_pos rfl] at hk ⊢
    by_cases hb : B x (2 + s) = true
    · rw [if_pos hb] at hk; simp at hk
    · rw [if_neg hb] at hk ⊢
      by_cases hf : sf x s = true
      · rw [if_pos hf]
        exact key (2 + s) (by omega) (by simp [mkI]) (by simpa using hb) ⟨fun e => by omega, fun e => by omega, fun e => by omega, fun e => by omega⟩
      · rw [if_neg hf] at hk; simp at hk
  rw [if_neg h2] at hk ⊢
  by_cases h7 : t = 7
  · subst h7
    rw [if_pos rfl] at hk ⊢
    have hB := fun j => B_set x 11 j (by omega)
    have e : ∀ j, j < 11 → B (x.set 11 true) j = B x j := fun j hj => by rw [hB]; simp [show j ≠ 11 by omega]
    refine ⟨by simp [hl], fun j hj => ?_, ?_, ?_, ?_, ?_⟩
    · rw [e j hj, h.at' j hj]
      have : j ≠ mkI s 7 := by simp [mkI]; omega
      simp [this]
    · show B (x.set 11 true) 7 = true → B (x.set 11 true) 0 = true ∧ B (x.set 11 true) 1 = true
      rw [e 7 (by omega), e 0 (by omega), e 1 (by omega)]; exact h.r7
    · show B (x.set 11 true) 8 = true → B (x.set 11 true) 0 = true ∧ B (x.set 11 true) 3 = true
      rw [e 8 (by omega), e 0 (by omega), e 3 (by omega)]; exact h.r8
    · show B (x.set 11 true) 9 = true → B (x.set 11 true) 2 = true ∧ B (x.set 11 true) 1 = true
      rw [e 9 (by omega), e 2 (by omega), e 1 (by omega)]; exact h.r9
    · show B (x.set 11 true) 10 = true → B (x.set 11 true) 2 = true ∧ B (x.set 11 true) 3 = true
      rw [e 10 (by omega), e 2 (by omega), e 3 (by omega)]; exact h.ra
  rw [if_neg h7] at hk ⊢
  by_cases hb : B x (4 + t.toNat) = true
  · rw [if_pos hb] at hk; simp at hk
  rw [if_neg hb] at hk ⊢
  by_cases hh : hs x t = true
  · rw [if_pos hh]
    refine key (4 + t.toNat) (by omega) (by simp [mkI, h1, h2]) (by simpa using hb) ?_
    unfold hs at hh
    refine ⟨fun e => ?_, fun e => ?_, fun e => ?_, fun e => ?_⟩
    · have : t = 3 := by omega
      rw [if_pos this] at hh; simpa using hh
    · have : t = 4 := by omega
      rw [if_neg (by omega), if_pos this] at hh; simpa using hh
    · have : t = 5 := by omega
      rw [if_neg (by omega), if_neg (by omega), if_pos this] at hh; simpa using hh
    · have : t = 6 := by omega
      rw [if_neg (by omega), if_neg (by omega), if_neg (by omega)] at hh; simpa using hh
  · rw [if_neg hh] at hk; simp at hk
theorem Mt.congr {x : Sn} {c d : Nat → Nat} (h : Mt x c) (e : ∀ i, i < 11 → c i = d i) : Mt x d := ⟨h.len, fun i hi => (h.at' i hi).trans (e i hi), h.r7, h.r8, h.r9, h.ra⟩
/-- how often a mark is laid by the tokens of a side -/
def mc (s : Nat) (i : Nat) : List Int → Nat
  | [] => 0
  | t :: r => (if i = mkI s t then 1 else 0) + mc s i r
def ml (i : Nat) : List Ln → Nat
  | [] => 0
  | l :: r => mc l.1.toNat i l.2 + ml i r
theorem Mt.tks {s : Nat} (hs2 : s < 2) : ∀ (l : List Int) {x : Sn} {c : Nat → Nat}, Mt x c → (∀ t ∈ l, 1 ≤ t ∧ t ≤ 7) → (tks s x l).2 = 0 → Mt (tks s x l).1 (fun i => c i + mc s i l)
  | [], x, c, h, _, _ => h.congr (fun i _ => by simp [mc])
  | t :: r, x, c, h, ht, hk => by
    simp only [Pat.tks] at hk ⊢
    by_cases h0 : (tk x s t).2 = 0
    · rw [if_pos h0] at hk ⊢
      refine (Mt.tks hs2 r (h.step hs2 (ht t (by simp)) h0) (fun y hy => ht y (by simp [hy])) hk).congr (fun i _ => by simp only [mc]; omega)
    · rw [if_neg h0] at hk
      exact absurd hk h0
theorem Mt.lns : ∀ (L : List Ln) {x : Sn} {c : Nat → Nat}, Mt x c → (∀ l ∈ L, (l.1 = 0 ∨ l.1 = 1) ∧ ∀ t ∈ l.2, 1 ≤ t ∧ t ≤ 7) → (lns x L).2 = 0 → Mt (lns x L).1 (fun i => c i + ml i L)
  | [], x, c, h, _, _ => h.congr (fun i _ => by simp [ml])
  | (f, ts) :: r, x, c, h, ht, hk => by
    simp only [Pat.lns] at hk ⊢
    have hf := ht (f, ts) (by simp)
    by_cases h0 : (Pat.tks f.toNat x ts).2 = 0
    · rw [if_neg (by simpa using h0)] at hk ⊢
      by_cases h1 : sf (Pat.tks f.toNat x ts).1 f.toNat = true
      · rw [if_pos h1] at hk ⊢
        refine (Mt.lns r (h.tks (by have := hf.1; simp only at this; omega) ts hf.2 h0) (fun y hy => ht y (by simp [hy])) hk).congr (fun i _ => by simp only [ml]; omega)
      · rw [if_neg h1] at hk; simp at hk
    · rw [if_pos h0] at hk
      exact absurd hk h0
theorem mc_nc {s : Nat} (hs2 : s < 2) : ∀ (l : List Int), (∀ t ∈ l, 1 ≤ t ∧ t ≤ 7) →
    (∀ s', s' < 2 → mc s s' l = if s = s' then nc 1 l else 0) ∧ (∀ s', s' < 2 → mc s (2 + s') l = if s = s' then nc 2 l else 0) ∧ (∀ k : Nat, 3 ≤ k → k ≤ 6 → mc s (4 + k) l = nc (k : Int) l)
  | [], _ => ⟨fun _ _ => by simp [mc, nc], fun _ _ => by simp [mc, nc], fun _ _ _ => by simp [mc, nc]⟩
  | t :: r, ht => by
    obtain ⟨i1, i2, i3⟩ := mc_nc hs2 r (fun y hy => ht y (by simp [hy]))
    have h0 := ht t (by simp)
    have e1 : t = 1 → mkI s t = s := fun h => by simp [mkI, h]
    have e2 : t = 2 → mkI s t = 2 + s := fun h => by simp [mkI, h]
    have e3 : t ≠ 1 → t ≠ 2 → mkI s t = 4 + t.toNat := fun h h' => by simp [mkI, h, h']
    refine ⟨fun s' hs' => ?_, fun s' hs' => ?_, fun k h3 h6 => ?_⟩
    · simp only [mc, nc, i1 s' hs']
      by_cases a : t = 1
      · rw [e1 a]; repeat' split
        all_goals omega
      · by_cases b : t = 2
        · rw [e2 b]; repeat' split
          all_goals omega
        · rw [e3 a b]; repeat' split
          all_goals omega
    · simp only [mc, nc, i2 s' hs']
      by_cases a : t = 1
      · rw [e1 a]; repeat' split
        all_goals omega
      · by_cases b : t = 2
        · rw [e2 b]; repeat' split
          all_goals omega
        · rw [e3 a b]; repeat' split
          all_goals omega
    · simp only [mc, nc, i3 k h3 h6]
      by_cases a : t = 1
      · rw [e1 a]; repeat' split
        all_goals omega
      · by_cases b : t = 2
        · rw [e2 b]; repeat' split
          all_goals omega
        · rw [e3 a b]; repeat' split
          all_goals omega
theorem sd_neg (s : Int) : sdB (-1) s = true := by simp [sdB]
theorem sd_nat (a b : Nat) : sdB (a : Int) (b : Int) = decide (b = a) := by
  unfold sdB
  have h : ¬ ((a : Int) < 0) := by omega
  simp only [h, decide_false, Bool.false_or]
  rw [Bool.eq_iff_iff, decide_eq_true_iff, decide_eq_true_iff]
  omega
theorem cl_ml : ∀ (L : List Ln), (∀ l ∈ L, (l.1 = 0 ∨ l.1 = 1) ∧ ∀ t ∈ l.2, 1 ≤ t ∧ t ≤ 7) →
    (∀ s' : Nat, s' < 2 → ml s' L = cl (s' : Int) 1 L) ∧ (∀ s' : Nat, s' < 2 → ml (2 + s') L = cl (s' : Int) 2 L) ∧ (∀ k : Nat, 3 ≤ k → k ≤ 6 → ml (4 + k) L = cl (-1) (k : Int) L)
  | [], _ => ⟨fun _ _ => rfl, fun _ _ => rfl, fun _ _ _ => rfl⟩
  | (f, ts) :: r, ht => by
    obtain ⟨i1, i2, i3⟩ := cl_ml r (fun y hy => ht y (by simp [hy]))
    have hf := ht (f, ts) (by simp)
    obtain ⟨n, hn, h2⟩ : ∃ n : Nat, f = (n : Int) ∧ n < 2 := ⟨f.toNat, by have := hf.1; simp only at this; omega, by have := hf.1; simp only at this; omega⟩
    subst hn
    obtain ⟨m1, m2, m3⟩ := mc_nc h2 ts hf.2
    refine ⟨fun s' hs' => ?_, fun s' hs' => ?_, fun k h3 h6 => ?_⟩
    · simp only [ml, cl, i1 s' hs', Int.toNat_natCast, m1 s' hs', sd_nat, cn, decide_eq_true_eq]
    · simp only [ml, cl, i2 s' hs', Int.toNat_natCast, m2 s' hs', sd_nat, cn, decide_eq_true_eq]
    · simp only [ml, cl, i3 k h3 h6, Int.toNat_natCast, m3 k h3 h6, sd_neg, cn, if_true]
theorem ahd_four {l : List Int} (h : ahd l = true) : l = [] ∨ l = [1] ∨ l = [2] ∨ l = [1, 2] := by
  match l, h with
  | [], _ => simp
  | [a], h => simp [ahd] at h; rcases h with h | h <;> simp [h]
  | [a, b], h => simp [ahd] at h; simp [h]
  | _ :: _ :: _ :: _, h => simp [ahd] at h
theorem bg_mt (b0 b1 : List Int) (h0 : ahd b0 = true) (h1 : ahd b1 = true) : Mt (bg 1 (bg 0 Sn0 b0) b1) (fun i => mc 0 i b0 + mc 1 i b1) := by
  rcases ahd_four h0 with rfl | rfl | rfl | rfl <;> rcases ahd_four h1 with rfl | rfl | rfl | rfl <;> exact ⟨by decide, by decide, by decide, by decide, by decide, by decide⟩
theorem beg_mt {p : Pt} (h0 : ahd p.b0 = true) (h1 : ahd p.b1 = true) : Mt (beg p) (fun i => mc 0 i p.b0 + mc 1 i p.b1) := bg_mt _ _ h0 h1
def both (p : Pt) : Bool := decide (1 < p.ln.length) || decide ((p.ln.getD 0 (0, [])).1 = 1)
structure OnP (p : Pt) : Prop where
  sh : shaped p = true
  e0 : cntP p 0 1 ≤ 1 ∧ cntP p 0 2 ≤ 1
  e1 : cntP p 1 1 ≤ 1 ∧ cntP p 1 2 ≤ 1
  k : cntP p (-1) 3 ≤ 1 ∧ cntP p (-1) 4 ≤ 1 ∧ cntP p (-1) 5 ≤ 1 ∧ cntP p (-1) 6 ≤ 1
  ee : cntP p (-1) 3 = 1 → cntP p 0 1 ≠ 0 ∧ cntP p 1 1 ≠ 0
  ss : cntP p (-1) 6 = 1 → cntP p 0 2 ≠ 0 ∧ cntP p 1 2 ≠ 0
  es : cntP p (-1) 4 = 1 → cntP p 0 1 ≠ 0 ∧ cntP p 1 2 ≠ 0
  se : cntP p (-1) 5 = 1 → cntP p 0 2 ≠ 0 ∧ cntP p 1 1 ≠ 0
  s1 : cntP p (-1) 5 = 1 → cntP p (-1) 3 ≠ 0
  s2 : both p = true → cntP p (-1) 4 = 1 → cntP p (-1) 3 ≠ 0
  s3 : cntP p (-1) 6 = 0 ∨ cntP p (-1) 4 = 1 ∧ (both p = false ∨ cntP p (-1) 5 = 1)
theorem shp_lines : ∀ (L : List Ln) (q : Option Int) (n : Nat), shp q n L = true → ∀ l ∈ L, (l.1 = 0 ∨ l.1 = 1) ∧ ∀ t ∈ l.2, 1 ≤ t ∧ t ≤ 7
  | [], _, _, _ => fun l hl => nomatch hl
  | (f, ts) :: r, q, n, h => by
    rw [shp_split] at h
    simp only [Bool.and_eq_true, decide_eq_true_eq] at h
    intro l hl
    rcases List.mem_cons.1 hl with rfl | hl
    · refine ⟨h.1.1.1.1.1, fun t ht => ?_⟩
      have := List.all_eq_true.1 h.1.2 t ht
      simpa [isTok] using this
    · exact shp_lines r _ _ h.2 l hl
theorem shaped_lines {p : Pt} (h : shaped p = true) : ahd p.b0 = true ∧ ahd p.b1 = true ∧ p.ln ≠ [] ∧ shp none 0 p.ln = true := by
  unfold shaped at h
  simp only [Bool.and_eq_true] at h
  exact ⟨h.1.1.1, h.1.1.2, by simpa using h.1.2, h.2⟩
theorem bn_le (b : Bool) : bn b ≤ 1 := by cases b <;> decide
theorem bn_one {b : Bool} (h : bn b = 1) : b = true := by cases b with | true => rfl | false => cases h
theorem bn_zero {b : Bool} (h : bn b = 0) : b = false := by cases b with | false => rfl | true => cases h
theorem bn_ne {b : Bool} (h : b = true) : bn b ≠ 0 := by rw [h]; decide
theorem on_chk {p : Pt} (h : chk p = 0) : OnP p := by
  have hsh := chk_shaped h
  obtain ⟨h0, h1, hne, hl⟩ := shaped_lines hsh
  have hL := shp_lines p.ln none 0 hl
  unfold chk at h
  rw [if_neg (by rw [hsh]; simp)] at h
  by_cases hk : (lns (beg p) p.ln).2 = 0
  case neg => rw [if_pos hk] at h; exact absurd h hk
  rw [if_neg (by simpa using hk)] at h
  by_cases hs0 : sf (lns (beg p) p.ln).1 0 = true
  case neg => rw [if_pos (by simpa using hs0)] at h; simp at h
  rw [if_neg (by rw [hs0]; simp)] at h
  by_cases hs1 : oneWay p = false ∧ sf (lns (beg p) p.ln).1 1 = false
  case pos => rw [if_pos hs1] at h; simp at h
  have hM := (beg_mt h0 h1).lns p.ln hL hk
  have t0 : ∀ t ∈ p.b0, 1 ≤ t ∧ t ≤ 7 := fun t ht => by rcases ahd_four h0 with e | e | e | e <;> rw [e] at ht <;> simp at ht <;> omega
  have t1 : ∀ t ∈ p.b1, 1 ≤ t ∧ t ≤ 7 := fun t ht => by rcases ahd_four h1 with e | e | e | e <;> rw [e] at ht <;> simp at ht <;> omega
  obtain ⟨u1, u2, u3⟩ := mc_nc (s := 0) (by decide) p.b0 t0
  obtain ⟨v1, v2, v3⟩ := mc_nc (s := 1) (by decide) p.b1 t1
  obtain ⟨l1, l2, l3⟩ := cl_ml p.ln hL
  obtain ⟨x, hx⟩ : ∃ x, (lns (beg p) p.ln).1 = x := ⟨_, rfl⟩
  rw [hx] at hM hs0 hs1
  have c1 : ∀ s' : Nat, s' < 2 → cntP p (s' : Int) 1 = bn (B x s') := fun s' hs' => by
    rw [hM.at' s' (by omega), u1 s' hs', v1 s' hs', l1 s' hs']
    have a : sdB (s' : Int) 0 = decide (0 = s') := sd_nat s' 0
    have b : sdB (s' : Int) 1 = decide (1 = s') := sd_nat s' 1
    simp only [cntP, cn, a, b, decide_eq_true_eq]
  have c2 : ∀ s' : Nat, s' < 2 → cntP p (s' : Int) 2 = bn (B x (2 + s')) := fun s' hs' => by
    rw [hM.at' (2 + s') (by omega), u2 s' hs', v2 s' hs', l2 s' hs']
    have a : sdB (s' : Int) 0 = decide (0 = s') := sd_nat s' 0
    have b : sdB (s' : Int) 1 = decide (1 = s') := sd_nat s' 1
    simp only [cntP, cn, a, b, decide_eq_true_eq]
  have c3 : ∀ k : Nat, 3 ≤ k → k ≤ 6 → cntP p (-1) (k : Int) = bn (B x (4 + k)) := fun k h3 h6 => by
    rw [hM.at' (4 + k) (by omega), u3 k h3 h6, v3 k h3 h6, l3 k h3 h6]
    simp only [cntP, cn, sd_neg, if_true]
  have e00 : cntP p 0 1 = bn (B x 0) := c1 0 (by decide)
  have e10 : cntP p 1 1 = bn (B x 1) := c1 1 (by decide)
  have e02 : cntP p 0 2 = bn (B x 2) := c2 0 (by decide)
  have e12 : cntP p 1 2 = bn (B x 3) := c2 1 (by decide)
  have k3 : cntP p (-1) 3 = bn (B x 7) := c3 3 (by decide) (by decide)
  have k4 : cntP p (-1) 4 = bn (B x 8) := c3 4 (by decide) (by decide)
  have k5 : cntP p (-1) 5 = bn (B x 9) := c3 5 (by decide) (by decide)
  have k6 : cntP p (-1) 6 = bn (B x 10) := c3 6 (by decide) (by decide)
  unfold sf at hs0 hs1
  simp only [Bool.and_eq_true, if_true, Bool.or_eq_true, Bool.not_eq_true'] at hs0
  have hb : both p = true → oneWay p = false := fun hb => by
    unfold both at hb
    unfold oneWay
    match hp : p.ln with
    | [] => rfl
    | [(f, ts)] =>
      rw [hp] at hb
      simp at hb
      simp [hb]
    | _ :: _ :: _ => rfl
  have hs1' : both p = true → (B x 8 = false ∨ B x 7 = true) ∧ (B x 10 = false ∨ B x 9 = true) := fun hbb => by
    have h9 : ¬ _ := fun e => hs1 ⟨hb hbb, e⟩
    simp only [Bool.not_eq_false, Bool.and_eq_true, if_neg (show ¬ (1 : Nat) = 0 by decide), Bool.or_eq_true, Bool.not_eq_true'] at h9
    exact h9.2
  refine ⟨hsh, ?_, ?_, ?_, ?_, ?_, ?_, ?_, ?_, ?_, ?_⟩
  · rw [e00, e02]; exact ⟨bn_le _, bn_le _⟩
  · rw [e10, e12]; exact ⟨bn_le _, bn_le _⟩
  · rw [k3, k4, k5, k6]; exact ⟨bn_le _, bn_le _, bn_le _, bn_le _⟩
  · rw [k3, e00, e10]; exact fun e => ⟨bn_ne (hM.r7 (bn_one e)).1, bn_ne (hM.r7 (bn_one e)).2⟩
  · rw [k6, e02, e12]; exact fun e => ⟨bn_ne (hM.ra (bn_one e)).1, bn_ne (hM.ra (bn_one e)).2⟩
  · rw [k4, e00, e12]; exact fun e => ⟨bn_ne (hM.r8 (bn_one e)).1, bn_ne (hM.r8 (bn_one e)).2⟩
  · rw [k5, e02, e10]; exact fun e => ⟨bn_ne (hM.r9 (bn_one e)).1, bn_ne (hM.r9 (bn_one e)).2⟩
  · rw [k5, k3]
    intro e
    rcases hs0.2.1 with g | g
    · rw [bn_one e] at g; cases g
    · exact bn_ne g
  · rw [k4, k3]
    intro hbb e
    rcases (hs1' hbb).1 with g | g
    · rw [bn_one e] at g; cases g
    · exact bn_ne g
  · rw [k6, k4, k5]
    rcases hs0.2.2 with g | g
    · left; rw [g]; rfl
    · by_cases g10 : B x 10 = true
      · right
        refine ⟨by rw [g]; rfl, ?_⟩
        by_cases hbb : both p = true
        · right
          rcases (hs1' hbb).2 with g' | g'
          · rw [g10] at g'; cases g'
          · rw [g']; rfl
        · left; simpa using hbb
      · left
        rw [show B x 10 = false by simpa using g10]; rfl
end Go.Pat
