import Derived.KernelRfl
import Derived.Maps.Own
import Derived.Maps.OwnOps
import Derived.Test.YtpfidohkohldaaaGreatDoorMqal
import Derived.Test.YtpfidohkohldaaaGreatDoorMqbf
import Derived.Test.YtpfidohkohldaaaGreatDoorMqau
/- the program's table of texts, az data -/
namespace Go.Pat
set_option linter.unusedVariables false
set_option maxRecDepth 100000
/-- the program's table: names and texts -/
def tbl : List (ByteArray × ByteArray) := [
  (⟨#[78]⟩, ⟨#[78, 58, 10, 32, 32, 60, 45, 32, 115, 10, 32, 32, 46, 46, 46, 10, 32, 32, 45, 62, 32, 101, 44, 32, 101, 115, 10]⟩),
  (⟨#[75]⟩, ⟨#[75, 58, 10, 32, 32, 45, 62, 32, 115, 10, 32, 32, 60, 45, 32, 115, 10, 32, 32, 46, 46, 46, 10, 32, 32, 45, 62, 32, 101, 44, 32, 101, 115, 44, 32, 115, 115, 10]⟩),
  (⟨#[88]⟩, ⟨#[88, 58, 10, 32, 32, 60, 45, 32, 115, 10, 32, 32, 46, 46, 46, 10, 32, 32, 45, 62, 32, 101, 44, 32, 101, 115, 44, 32, 115, 44, 32, 115, 115, 10]⟩),
  (⟨#[78, 78]⟩, ⟨#[78, 78, 58, 10, 32, 32, 45, 62, 32, 101, 10, 32, 32, 60, 45, 32, 101, 44, 32, 101, 101, 10]⟩),
  (⟨#[78, 75]⟩, ⟨#[78, 75, 58, 10, 32, 32, 60, 45, 32, 115, 10, 32, 32, 46, 46, 46, 10, 32, 32, 45, 62, 32, 101, 44, 32, 101, 115, 10, 32, 32, 60, 45, 32, 101, 44, 32, 101, 101, 10]⟩),
  (⟨#[78, 88]⟩, ⟨#[78, 88, 58, 10, 32, 32, 45, 62, 32, 101, 10, 32, 32, 60, 45, 32, 101, 44, 32, 101, 101, 44, 32, 115, 44, 32, 101, 115, 10]⟩),
  (⟨#[88, 78]⟩, ⟨#[88, 78, 58, 10, 32, 32, 45, 62, 32, 101, 10, 32, 32, 60, 45, 32, 101, 44, 32, 101, 101, 10, 32, 32, 45, 62, 32, 115, 44, 32, 115, 101, 10]⟩),
  (⟨#[88, 75]⟩, ⟨#[88, 75, 58, 10, 32, 32, 60, 45, 32, 115, 10, 32, 32, 46, 46, 46, 10, 32, 32, 45, 62, 32, 101, 44, 32, 101, 115, 10, 32, 32, 60, 45, 32, 101, 44, 32, 101, 101, 10, 32, 32, 45, 62, 32, 115, 44, 32, 115, 101, 10]⟩),
  (⟨#[88, 88]⟩, ⟨#[88, 88, 58, 10, 32, 32, 45, 62, 32, 101, 10, 32, 32, 60, 45, 32, 101, 44, 32, 101, 101, 44, 32, 115, 44, 32, 101, 115, 10, 32, 32, 45, 62, 32, 115, 44, 32, 115, 101, 10]⟩),
  (⟨#[75, 78]⟩, ⟨#[75, 78, 58, 10, 32, 32, 45, 62, 32, 115, 10, 32, 32, 46, 46, 46, 10, 32, 32, 45, 62, 32, 101, 10, 32, 32, 60, 45, 32, 101, 44, 32, 101, 101, 44, 32, 115, 101, 10]⟩),
  (⟨#[75, 75]⟩, ⟨#[75, 75, 58, 10, 32, 32, 45, 62, 32, 115, 10, 32, 32, 60, 45, 32, 115, 10, 32, 32, 46, 46, 46, 10, 32, 32, 45, 62, 32, 101, 44, 32, 101, 115, 44, 32, 115, 115, 10, 32, 32, 60, 45, 32, 101, 44, 32, 101, 101, 44, 32, 115, 101, 10]⟩),
  (⟨#[75, 88]⟩, ⟨#[75, 88, 58, 10, 32, 32, 45, 62, 32, 115, 10, 32, 32, 46, 46, 46, 10, 32, 32, 45, 62, 32, 101, 10, 32, 32, 60, 45, 32, 101, 44, 32, 101, 101, 44, 32, 115, 101, 44, 32, 115, 44, 32, 101, 115, 10]⟩),
  (⟨#[73, 78]⟩, ⟨#[73, 78, 58, 10, 32, 32, 45, 62, 32, 101, 44, 32, 115, 10, 32, 32, 60, 45, 32, 101, 44, 32, 101, 101, 44, 32, 115, 101, 10]⟩),
  (⟨#[73, 75]⟩, ⟨#[73, 75, 58, 10, 32, 32, 60, 45, 32, 115, 10, 32, 32, 46, 46, 46, 10, 32, 32, 45, 62, 32, 101, 44, 32, 101, 115, 44, 32, 115, 44, 32, 115, 115, 10, 32, 32, 60, 45, 32, 101, 44, 32, 101, 101, 44, 32, 115, 101, 10]⟩),
  (⟨#[73, 88]⟩, ⟨#[73, 88, 58, 10, 32, 32, 45, 62, 32, 101, 44, 32, 115, 10, 32, 32, 60, 45, 32, 101, 44, 32, 101, 101, 44, 32, 115, 101, 44, 32, 115, 44, 32, 101, 115, 10]⟩),
  (⟨#[78, 75, 49]⟩, ⟨#[78, 75, 49, 58, 10, 32, 32, 60, 45, 32, 115, 10, 32, 32, 46, 46, 46, 10, 32, 32, 45, 62, 32, 101, 10, 32, 32, 60, 45, 32, 101, 44, 32, 101, 101, 44, 32, 101, 115, 10]⟩),
  (⟨#[78, 88, 49]⟩, ⟨#[78, 88, 49, 58, 10, 32, 32, 45, 62, 32, 101, 10, 32, 32, 60, 45, 32, 101, 44, 32, 101, 101, 44, 32, 115, 10, 32, 32, 45, 62, 32, 101, 115, 10]⟩),
  (⟨#[88, 49, 78]⟩, ⟨#[88, 49, 78, 58, 10, 32, 32, 45, 62, 32, 101, 10, 32, 32, 60, 45, 32, 101, 44, 32, 101, 101, 10, 32, 32, 45, 62, 32, 115, 10, 32, 32, 60, 45, 32, 115, 101, 10]⟩),
  (⟨#[88, 49, 75]⟩, ⟨#[88, 49, 75, 58, 10, 32, 32, 60, 45, 32, 115, 10, 32, 32, 46, 46, 46, 10, 32, 32, 45, 62, 32, 101, 44, 32, 101, 115, 10, 32, 32, 60, 45, 32, 101, 44, 32, 101, 101, 10, 32, 32, 45, 62, 32, 115, 10, 32, 32, 60, 45, 32, 115, 101, 10]⟩),
  (⟨#[88, 75, 49]⟩, ⟨#[88, 75, 49, 58, 10, 32, 32, 60, 45, 32, 115, 10, 32, 32, 46, 46, 46, 10, 32, 32, 45, 62, 32, 101, 10, 32, 32, 60, 45, 32, 101, 44, 32, 101, 101, 44, 32, 101, 115, 10, 32, 32, 45, 62, 32, 115, 44, 32, 115, 101, 10]⟩),
  (⟨#[88, 49, 75, 49]⟩, ⟨#[88, 49, 75, 49, 58, 10, 32, 32, 60, 45, 32, 115, 10, 32, 32, 46, 46, 46, 10, 32, 32, 45, 62, 32, 101, 10, 32, 32, 60, 45, 32, 101, 44, 32, 101, 101, 44, 32, 101, 115, 10, 32, 32, 45, 62, 32, 115, 10, 32, 32, 60, 45, 32, 115, 101, 10]⟩),
  (⟨#[88, 49, 88]⟩, ⟨#[88, 49, 88, 58, 10, 32, 32, 45, 62, 32, 101, 10, 32, 32, 60, 45, 32, 101, 44, 32, 101, 101, 44, 32, 115, 44, 32, 101, 115, 10, 32, 32, 45, 62, 32, 115, 10, 32, 32, 60, 45, 32, 115, 101, 10]⟩),
  (⟨#[88, 88, 49]⟩, ⟨#[88, 88, 49, 58, 10, 32, 32, 45, 62, 32, 101, 10, 32, 32, 60, 45, 32, 101, 44, 32, 101, 101, 44, 32, 115, 10, 32, 32, 45, 62, 32, 101, 115, 44, 32, 115, 44, 32, 115, 101, 10]⟩),
  (⟨#[88, 49, 88, 49]⟩, ⟨#[88, 49, 88, 49, 58, 10, 32, 32, 45, 62, 32, 101, 10, 32, 32, 60, 45, 32, 101, 44, 32, 101, 101, 44, 32, 115, 10, 32, 32, 45, 62, 32, 101, 115, 44, 32, 115, 10, 32, 32, 60, 45, 32, 115, 101, 10]⟩),
  (⟨#[75, 49, 78]⟩, ⟨#[75, 49, 78, 58, 10, 32, 32, 45, 62, 32, 115, 10, 32, 32, 46, 46, 46, 10, 32, 32, 45, 62, 32, 101, 10, 32, 32, 60, 45, 32, 101, 44, 32, 101, 101, 10, 32, 32, 45, 62, 32, 115, 101, 10]⟩),
  (⟨#[75, 49, 75]⟩, ⟨#[75, 49, 75, 58, 10, 32, 32, 45, 62, 32, 115, 10, 32, 32, 60, 45, 32, 115, 10, 32, 32, 46, 46, 46, 10, 32, 32, 45, 62, 32, 101, 44, 32, 101, 115, 10, 32, 32, 60, 45, 32, 101, 44, 32, 101, 101, 10, 32, 32, 45, 62, 32, 115, 101, 10]⟩),
  (⟨#[75, 75, 49]⟩, ⟨#[75, 75, 49, 58, 10, 32, 32, 45, 62, 32, 115, 10, 32, 32, 60, 45, 32, 115, 10, 32, 32, 46, 46, 46, 10, 32, 32, 45, 62, 32, 101, 10, 32, 32, 60, 45, 32, 101, 44, 32, 101, 101, 44, 32, 115, 101, 44, 32, 101, 115, 10]⟩),
  (⟨#[75, 49, 75, 49]⟩, ⟨#[75, 49, 75, 49, 58, 10, 32, 32, 45, 62, 32, 115, 10, 32, 32, 60, 45, 32, 115, 10, 32, 32, 46, 46, 46, 10, 32, 32, 45, 62, 32, 101, 10, 32, 32, 60, 45, 32, 101, 44, 32, 101, 101, 44, 32, 101, 115, 10, 32, 32, 45, 62, 32, 115, 101, 10]⟩),
  (⟨#[75, 49, 88]⟩, ⟨#[75, 49, 88, 58, 10, 32, 32, 45, 62, 32, 115, 10, 32, 32, 46, 46, 46, 10, 32, 32, 45, 62, 32, 101, 10, 32, 32, 60, 45, 32, 101, 44, 32, 101, 101, 44, 32, 115, 44, 32, 101, 115, 10, 32, 32, 45, 62, 32, 115, 101, 10]⟩),
  (⟨#[75, 88, 49]⟩, ⟨#[75, 88, 49, 58, 10, 32, 32, 45, 62, 32, 115, 10, 32, 32, 46, 46, 46, 10, 32, 32, 45, 62, 32, 101, 10, 32, 32, 60, 45, 32, 101, 44, 32, 101, 101, 44, 32, 115, 101, 44, 32, 115, 10, 32, 32, 45, 62, 32, 101, 115, 10]⟩),
  (⟨#[75, 49, 88, 49]⟩, ⟨#[75, 49, 88, 49, 58, 10, 32, 32, 45, 62, 32, 115, 10, 32, 32, 46, 46, 46, 10, 32, 32, 45, 62, 32, 101, 10, 32, 32, 60, 45, 32, 101, 44, 32, 101, 101, 44, 32, 115, 10, 32, 32, 45, 62, 32, 115, 101, 44, 32, 101, 115, 10]⟩),
  (⟨#[73, 49, 78]⟩, ⟨#[73, 49, 78, 58, 10, 32, 32, 45, 62, 32, 101, 44, 32, 115, 10, 32, 32, 60, 45, 32, 101, 44, 32, 101, 101, 10, 32, 32, 45, 62, 32, 115, 101, 10]⟩),
  (⟨#[73, 49, 75]⟩, ⟨#[73, 49, 75, 58, 10, 32, 32, 60, 45, 32, 115, 10, 32, 32, 46, 46, 46, 10, 32, 32, 45, 62, 32, 101, 44, 32, 101, 115, 44, 32, 115, 10, 32, 32, 60, 45, 32, 101, 44, 32, 101, 101, 10, 32, 32, 45, 62, 32, 115, 101, 10]⟩),
  (⟨#[73, 75, 49]⟩, ⟨#[73, 75, 49, 58, 10, 32, 32, 60, 45, 32, 115, 10, 32, 32, 46, 46, 46, 10, 32, 32, 45, 62, 32, 101, 44, 32, 115, 10, 32, 32, 60, 45, 32, 101, 44, 32, 101, 101, 44, 32, 115, 101, 44, 32, 101, 115, 10]⟩),
  (⟨#[73, 49, 75, 49]⟩, ⟨#[73, 49, 75, 49, 58, 10, 32, 32, 60, 45, 32, 115, 10, 32, 32, 46, 46, 46, 10, 32, 32, 45, 62, 32, 101, 44, 32, 115, 10, 32, 32, 60, 45, 32, 101, 44, 32, 101, 101, 44, 32, 101, 115, 10, 32, 32, 45, 62, 32, 115, 101, 10]⟩),
  (⟨#[73, 49, 88]⟩, ⟨#[73, 49, 88, 58, 10, 32, 32, 45, 62, 32, 101, 44, 32, 115, 10, 32, 32, 60, 45, 32, 101, 44, 32, 101, 101, 44, 32, 115, 44, 32, 101, 115, 10, 32, 32, 45, 62, 32, 115, 101, 10]⟩),
  (⟨#[73, 88, 49]⟩, ⟨#[73, 88, 49, 58, 10, 32, 32, 45, 62, 32, 101, 44, 32, 115, 10, 32, 32, 60, 45, 32, 101, 44, 32, 101, 101, 44, 32, 115, 101, 44, 32, 115, 10, 32, 32, 45, 62, 32, 101, 115, 10]⟩),
  (⟨#[73, 49, 88, 49]⟩, ⟨#[73, 49, 88, 49, 58, 10, 32, 32, 45, 62, 32, 101, 44, 32, 115, 10, 32, 32, 60, 45, 32, 101, 44, 32, 101, 101, 44, 32, 115, 10, 32, 32, 45, 62, 32, 115, 101, 44, 32, 101, 115, 10]⟩)]
/-- the place in 'tab' of each of the program's names -/
def tbI (k : ByteArray) : Option Pt := tab.find? (fun p => decide (p.nm = k))
theorem tbl_prs : (tbl.map fun e => prs e.2) = tbl.map fun e => ((tbI e.1).getD zPt, 0) := by kernel_rfl
theorem tbl_apart : (decide (tbl.Pairwise fun a b => ¬ a.1 = b.1)) = true := by kernel_rfl
theorem tbl_small : (tbl.all fun e => decide (e.1.size ≤ 100) && decide (e.2.size ≤ 4096)) = true := by kernel_rfl
theorem tab_in : (tab.all fun p => tbl.any fun e => decide (e.1 = p.nm)) = true := by kernel_rfl
theorem tbl_in : (tbl.all fun e => (tbI e.1).isSome) = true := by kernel_rfl
theorem tbl_len : tbl.length = 38 := rfl
/-- the program's look-up -/
def tbF (k : ByteArray) : Option (ByteArray × ByteArray) := tbl.find? fun e => decide (e.1 = k)
theorem tbF_some {k : ByteArray} {e : ByteArray × ByteArray} (h : tbF k = some e) : e.1 = k ∧ e ∈ tbl := by
  have h1 := List.find?_some h
  exact ⟨by simpa using h1, List.mem_of_find?_eq_some h⟩
theorem tbl_at {e : ByteArray × ByteArray} (h : e ∈ tbl) : prs e.2 = ((tbI e.1).getD zPt, 0) ∧ (tbI e.1).isSome = true ∧ e.2.size ≤ 4096 := by
  have h1 := tbl_prs
  rw [List.map_inj_left] at h1
  have h2 := List.all_eq_true.1 tbl_in e h
  have h3 := List.all_eq_true.1 tbl_small e h
  simp only [Bool.and_eq_true, decide_eq_true_eq] at h3
  exact ⟨h1 e h, h2, h3.2⟩
theorem tbF_none {k : ByteArray} (h : tbF k = none) : tbI k = none := by
  unfold tbF at h
  unfold tbI
  rw [List.find?_eq_none] at h ⊢
  intro p hp
  have h1 := List.all_eq_true.1 tab_in p hp
  rw [List.any_eq_true] at h1
  obtain ⟨e, he, h2⟩ := h1
  have h3 := h e he
  simp only [decide_eq_true_eq] at h2 h3 ⊢
  exact fun hk => h3 (h2.trans hk)
end Go.Pat
namespace Go.Proofs.YtpfidohkohldaaaGreatDoor
set_option linter.unusedSimpArgs false
set_option linter.unusedVariables false
set_option maxRecDepth 100000
open Go.ChangeShapes Go.WideShapes Go.ChangeAt Go.RowKit Go.Pin Go.Pat Go.Deep
open Go.ChangeMaps (setBlock)
/-- the entries of a table of texts -/
def ents : List (ByteArray × ByteArray) → Nat → List MapEntry
  | [], _ => []
  | e :: r, c => ⟨.string e.1, .agg #[.string e.2], c⟩ :: ents r (c + 1)
theorem ents_snoc (e : ByteArray × ByteArray) : ∀ (L : List (ByteArray × ByteArray)) (c : Nat), ents (L ++ [e]) c = ents L c ++ [⟨.string e.1, .agg #[.string e.2], c + L.length⟩]
  | [], c => by simp [ents]
  | x :: r, c => by
    simp only [List.cons_append, ents, ents_snoc e r (c + 1), List.length_cons]
    rw [show c + 1 + r.length = c + (r.length + 1) by omega]
theorem same_now (a b : ByteArray) : Instr.sameNow .string (.string a) (.string b) = some (decide (b = a)) := by
  simp only [Instr.sameNow]
  congr 1
  by_cases h : b = a
  · rw [decide_eq_true h]
    exact (MapKept.bytes_beq a b).2 h.symm
  · rw [decide_eq_false h]
    exact Bool.eq_false_iff.2 fun e => h ((MapKept.bytes_beq a b).1 e).symm
theorem find_ents (nm : ByteArray) : ∀ (L : List (ByteArray × ByteArray)) (c i : Nat),
    (L.find? (fun e => decide (e.1 = nm)) = none → Instr.findNow .string (.string nm) (ents L c) i = some none) ∧
    ∀ e, L.find? (fun e => decide (e.1 = nm)) = some e → ∃ j, Instr.findNow .string (.string nm) (ents L c) i = some (some (j, .agg #[.string e.2]))
  | [], c, i => ⟨fun _ => rfl, fun e h => (by cases h)⟩
  | x :: r, c, i => by
    have ih := find_ents nm r (c + 1) (i + 1)
    rw [List.find?_cons]
    simp only [ents, Instr.findNow, same_now]
    by_cases h : x.1 = nm
    · rw [decide_eq_true h]
      simp only
      exact ⟨fun h => (by cases h), fun e he => (by cases he; exact ⟨i, rfl⟩)⟩
    · rw [decide_eq_false h]
      simp only
      exact ih
/-- block g is a map of these texts -/
def OM (g : Nat) (L : List (ByteArray × ByteArray)) (w : World) : Prop := w.heap[g]? = some (.map (ents L 0).toArray L.length)
theorem zero_entry (w : World) : (zeroValue 63).run Tryz.prog w = .ok (.agg #[.string ⟨#[]⟩]) w := by kernel_rfl
theorem run_look {w : World} {g : Nat} {L : List (ByteArray × ByteArray)} (h : OM g L w) (nm : ByteArray) (c : Bool) :
    (Instr.lookup 65 (.map (some g)) (.string nm) c).run Tryz.prog w = .ok (if c then .tuple #[.agg #[.string (((L.find? (fun e => decide (e.1 = nm))).map (·.2)).getD ⟨#[]⟩)], .bool (L.find? (fun e => decide (e.1 = nm))).isSome] else .agg #[.string (((L.find? (fun e => decide (e.1 = nm))).map (·.2)).getD ⟨#[]⟩)]) w := by
  have hf := find_ents nm L 0 0
  unfold OM at h
  have hk : MapKept.IsKey .string (.string nm) := by simp [MapKept.IsKey]
  cases hn : L.find? (fun e => decide (e.1 = nm)) with
  | none =>
    have := hf.1 hn
    simp [Instr.lookup, run_underlying Tryz.underlying65, MapKept.run_getObj_map h, MapKept.run_checkKey Tryz.underlying9 hk, MapKept.run_findKey Tryz.underlying9 this, zero_entry, Result.andThen]
  | some e =>
    obtain ⟨j, this⟩ := hf.2 e hn
    simp [Instr.lookup, run_underlying Tryz.underlying65, MapKept.run_getObj_map h, MapKept.run_checkKey Tryz.underlying9 hk, MapKept.run_findKey Tryz.underlying9 this, zero_entry, Result.andThen]
theorem run_insert {w : World} {g : Nat} {L : List (ByteArray × ByteArray)} (h : OM g L w) (k t : ByteArray) (hno : L.find? (fun e => decide (e.1 = k)) = none) :
    (Instr.mapUpdate 65 (.map (some g)) (.string k) (.agg #[.string t])).run Tryz.prog w = .ok () (setBlock w g (.map (ents (L ++ [(k, t)]) 0).toArray (L ++ [(k, t)]).length)) := by
  have hf := (find_ents k L 0 0).1 hno
  unfold OM at h
  have hk : MapKept.IsKey .string (.string k) := by simp [MapKept.IsKey]
  simp [Instr.mapUpdate, run_underlying Tryz.underlying65, MapKept.run_getObj_map h, MapKept.run_checkKey Tryz.underlying9 hk, MapKept.run_findKey Tryz.underlying9 hf, MapKept.run_setObj_map _ h, Result.andThen, setBlock, ents_snoc]
theorem OM.ins {w : World} {g : Nat} {L : List (ByteArray × ByteArray)} (h : OM g L w) (M : List (ByteArray × ByteArray)) : OM g M (setBlock w g (.map (ents M 0).toArray M.length)) :=
  (MapKept.heap_set h).1
theorem OM.lt {w : World} {g : Nat} {L : List (ByteArray × ByteArray)} (h : OM g L w) : g < w.heap.size := (Array.getElem?_eq_some_iff.1 h).1
theorem OM.below {w w' : World} {g : Nat} {L : List (ByteArray × ByteArray)} (h : OM g L w) (hb : Below w.heap.size w w') : OM g L w' := (hb.block g h.lt).trans h
theorem below_block {w wr : World} {g : Nat} {L : List (ByteArray × ByteArray)} {q : Nat} (hb : Below q w wr) (h : OM g L wr) (hq : q ≤ g) (o : Obj) : Below q w (setBlock wr g o) :=
  ⟨hb.os, hb.tape, hb.output, by have := hb.size; simpa [setBlock] using this, fun k hk => ((MapKept.heap_set h).2 k (by omega)).trans (hb.block k hk)⟩
/-- operations that lay a table of texts, one text after another -/
inductive Fits : Nat → List Oper → List (ByteArray × ByteArray) → List Oper → Prop
  | nil (d : Nat) (r : List Oper) : Fits d r [] r
  | cons {d : Nat} {o1 o2 : Oper} {os : List Oper} {k t : ByteArray} {L : List (ByteArray × ByteArray)} {r : List Oper} (h1 : o1.dst = some d ∧ o1.op = .build 63 #[(0, .const (.string t))] ∧ o1.guard = none) (h2 : o2.dst = none ∧ o2.op = .insert 65 (.tmp 1) (.const (.string k)) (.tmp d) ∧ o2.guard = none) (h : Fits (d + 1) os L r) : Fits d (o1 :: o2 :: os) ((k, t) :: L) r
theorem build_entry (t : ByteArray) (w : World) : (Instr.build 63 #[(0, .string t)]).run Tryz.prog w = .ok (.agg #[.string t]) w := by kernel_rfl
theorem fits_wp {all : Array Oper} {Q : Exit → Act → World → Prop} {g : Nat} {w0 : World} {r : List Oper} :
    ∀ (L M : List (ByteArray × ByteArray)) (d : Nat) (ops : List Oper) (a : Act) (w : World), Fits d ops L r → OM g M w → Below w0.heap.size w0 w → w0.heap.size ≤ g → ((M ++ L).Pairwise fun a b => ¬ a.1 = b.1) → 2 ≤ d → d + L.length ≤ a.tmps.size →
      a.tmps.getD 1 undef = .map (some g) →
      (∀ (a' : Act) (w' : World), a'.tmps.size = a.tmps.size → a'.defers = a.defers → a'.tmps.getD 1 undef = .map (some g) → OM g (M ++ L) w' → Below w0.heap.size w0 w' → wpList Tryz.prog all Q r a' w') → wpList Tryz.prog all Q ops a w
  | [], M, d, ops, a, w, hf, hm, hb, hg, hp, hd, hs, h1, hk => by
    cases hf
    exact hk a w rfl rfl h1 (by rw [List.append_nil]; exact hm) hb
  | e :: L, M, d, ops, a, w, hf, hm, hb, hg, hp, hd, hs, h1, hk => by
    cases hf with
    | @cons _ o1 o2 os k t _ _ q1 q2 hf =>
      obtain ⟨a1, a2, a3⟩ := q1
      obtain ⟨b1, b2, b3⟩ := q2
      have hno : M.find? (fun e => decide (e.1 = k)) = none := by
        rw [List.find?_eq_none]
        intro x hx
        have := (List.pairwise_append.1 hp).2.2 x hx (k, t) (List.mem_cons_self)
        simpa using this
      have hs' : d + (L.length + 1) ≤ a.tmps.size := hs
      refine wpList_plain a3 fun K hK => ?_
      unfold Oper.wp
      simp [execOp, a2, Act.eval, build_entry, Result.andThen]
      obtain ⟨a', ha'⟩ : ∃ a', a.put o1.dst (.agg #[.string t]) = a' := ⟨_, rfl⟩
      have p1 : a'.tmps.getD 1 undef = .map (some g) := by
        rw [← ha', a1]
        show (a.tmps.setIfInBounds d _).getD 1 undef = _
        rw [← h1]
        simp [Array.getD_eq_getD_getElem?, Array.getElem?_setIfInBounds, show ¬ d = 1 by omega]
      have p2 : a'.tmps.getD d undef = .agg #[.string t] := by
        rw [← ha', a1]
        show (a.tmps.setIfInBounds d _).getD d undef = _
        simp [Array.getD_eq_getD_getElem?, Array.getElem?_setIfInBounds, show d < a.tmps.size by omega]
      have p3 : a'.tmps.size = a.tmps.size ∧ a'.defers = a.defers := by
        rw [← ha', a1]
        exact ⟨by show (a.tmps.setIfInBounds d _).size = _; simp, rfl⟩
      have e1 : a'.eval (.tmp 1) = .map (some g) := p1
      have e2 : a'.eval (.tmp d) = .agg #[.string t] := p2
      have e3 : a'.eval (.const (.string k)) = .string k := rfl
      show K (a.put o1.dst (.agg #[.string t])) w
      rw [ha']
      refine hK _ _ (wpList_plain b3 fun K' hK' => ?_)
      unfold Oper.wp
      have hrun := run_insert hm k t hno
      obtain ⟨w1, hw1⟩ : ∃ w1, setBlock w g (.map (ents (M ++ [(k, t)]) 0).toArray (M ++ [(k, t)]).length) = w1 := ⟨_, rfl⟩
      rw [hw1] at hrun
      have hm1 : OM g (M ++ [(k, t)]) w1 := by rw [← hw1]; exact hm.ins _
      have hb1 : Below w0.heap.size w0 w1 := by rw [← hw1]; exact below_block hb hm hg _
      simp [execOp, b2, e1, e2, e3, hrun, Result.andThen]
      show K' (a'.put o2.dst undef) _
      rw [b1]
      refine hK' _ _ ?_
      refine fits_wp L (M ++ [(k, t)]) (d + 1) os _ _ hf hm1 hb1 hg (by simpa using hp) (by omega) ?_ p1 fun a2 w2 r1 r2 r3 r4 r5 => hk a2 w2 (r1.trans p3.1) (r2.trans p3.2) r3 (by simpa using r4) r5
      rw [show (a'.put none undef).tmps = a'.tmps from rfl, p3.1]
      omega
set_option maxHeartbeats 4000000 in
theorem table_any (w : World) : Calls Tryz.prog 24 #[] w fun e w' => e = .returned (.map (some w.heap.size)) ∧ OM w.heap.size tbl w' ∧ Below w.heap.size w w' := by
  go_enter Tryz.func24, Tryz.ntmps24
  refine wp_seq (wp_region_list ?_)
  refine wpList_plain rfl fun K hK => ?_
  show K _ w
  refine hK _ _ ?_
  show Code.wp _ _ _ _ w
  refine wp_seq (wp_region_list ?_)
  refine wpList_plain rfl fun K hK => ?_
  show K _ (w.alloc (.map #[] 0))
  refine hK _ _ ?_
  refine fits_wp (r := ?r) (g := w.heap.size) (w0 := w) tbl [] 2 _ _ _ ?fit (MapKept.heap_alloc w _).1 ((Below.refl _ _).alloc (Nat.le_refl _) _) (Nat.le_refl _) (of_decide_eq_true tbl_apart) (Nat.le_refl _) (by show 2 + 38 ≤ 41; decide) rfl ?_
  case fit =>
    repeat (refine Fits.cons ⟨rfl, rfl, rfl⟩ ⟨rfl, rfl, rfl⟩ ?_)
    exact Fits.nil _ _
  intro a' w' h1 h2 h3 h4 h5
  have h1' : a'.tmps.size = 41 := h1
  have h2' : a'.defers = [] := h2
  refine wpList_plain rfl fun K hK => ?_
  show K (a'.put (some 40) (a'.eval (.tmp 1))) w'
  refine hK _ _ ?_
  refine wpList_plain rfl fun K hK => ?_
  show K ((a'.put (some 40) (a'.eval (.tmp 1))).put (some 0) ((a'.put (some 40) (a'.eval (.tmp 1))).eval (.tmp 40))) w'
  refine hK _ _ ?_
  show Code.wp _ _ _ _ w'
  refine wp_ret ?_
  have e1 : a'.eval (.tmp 1) = .map (some w.heap.size) := h3
  rw [e1]
  have e2 : (a'.put (some 40) (.map (some w.heap.size))).eval (.tmp 40) = .map (some w.heap.size) := by
    show (a'.tmps.setIfInBounds 40 _).getD 40 undef = _
    simp [Array.getD_eq_getD_getElem?, Array.getElem?_setIfInBounds, h1']
  rw [e2]
  refine bodyPost_ret (v := .map (some w.heap.size)) ?_ h2' ⟨rfl, h4, h5⟩
  have e3 : ((a'.put (some 40) (.map (some w.heap.size))).put (some 0) (.map (some w.heap.size))).tmps.getD 0 undef = .map (some w.heap.size) := by
    show ((a'.tmps.setIfInBounds 40 _).setIfInBounds 0 _).getD 0 undef = _
    simp [Array.getD_eq_getD_getElem?, Array.getElem?_setIfInBounds, h1']
  simp [results, Tryz.results24, Array.getD_eq_getD_getElem?] at e3 ⊢
  rw [e3]
end Go.Proofs.YtpfidohkohldaaaGreatDoor
namespace Go.Proofs.YtpfidohkohldaaaGreatDoor
set_option linter.unusedSimpArgs false
set_option linter.unusedVariables false
set_option maxRecDepth 100000
open Go.ChangeShapes Go.WideShapes Go.ChangeAt Go.RowKit Go.Pin Go.Pat Go.Deep
def FnP (t : ByteArray) (W : World) (e : Ending) (w' : World) : Prop :=
  Below W.heap.size W w' ∧ ∃ v0 v1 vl, e = .returned (.tuple #[.agg #[.string ((tbI t).getD zPt).nm, v0, v1, vl], .bool (tbI t).isSome]) ∧ FtP (fun b => W.heap.size ≤ b ∧ b < w'.heap.size) w' v0 v1 vl ((tbI t).getD zPt)
/-- what Find answers, its lists one's own -/
def FnO (t : ByteArray) (W : World) (e : Ending) (w' : World) : Prop :=
  Below W.heap.size W w' ∧ ∃ v0 v1 vl, e = .returned (.tuple #[.agg #[.string ((tbI t).getD zPt).nm, v0, v1, vl], .bool (tbI t).isSome]) ∧ FtP (fun b => W.heap.size ≤ b ∧ b < w'.heap.size) w' v0 v1 vl ((tbI t).getD zPt) ∧ OwP W.heap.size v0 v1 vl ((tbI t).getD zPt) w'
/-- a box of a pattern -/
structure PO (n : Nat) (w : World) (wr : World) : Prop where
  old : Below n w wr
  sz : n < wr.heap.size
  hp : wr.heap[n]? = some (.cells zPR 26)
theorem PO.below {n : Nat} {w wr w' : World} (h : PO n w wr) (hb : Below wr.heap.size wr w') : PO n w w' :=
  ⟨h.old.trans (hb.mono (Nat.le_of_lt h.sz)), Nat.lt_of_lt_of_le h.sz hb.size, (hb.block n h.sz).trans h.hp⟩
theorem four_row {w : World} {n : Nat} {e0 e1 e2 e3 : Value} {t : TypeId} (h : w.heap[n]? = some (.cells #[e0, e1, e2, e3] t)) (a b c d : Value) :
    ((((w.setCell ⟨n, 0, none⟩ a).setCell ⟨n, 1, none⟩ b).setCell ⟨n, 2, none⟩ c).setCell ⟨n, 3, none⟩ d).heap[n]? = some (.cells #[a, b, c, d] t) := by
  have h1 := Go.heap_setCell_same w n 0 _ _ a h
  have h2 := Go.heap_setCell_same _ n 1 _ _ b h1
  have h3 := Go.heap_setCell_same _ n 2 _ _ c h2
  have h4 := Go.heap_setCell_same _ n 3 _ _ d h3
  exact h4
set_option maxHeartbeats 8000000 in
theorem find_own {ea : Int → Addr} (t : ByteArray) (w : World) (hE : Errs ea w) :
    Calls Tryz.prog 13 #[.string t] w (FnO t w) := by
  have h0 : PO w.heap.size w (w.alloc (.cells zPR 26)) := ⟨(Below.refl _ _).alloc (Nat.le_refl _) _, by rw [size_alloc]; omega, heap_alloc_new _ _⟩
  obtain ⟨n, hn⟩ : ∃ n, w.heap.size = n := ⟨_, rfl⟩
  rw [hn] at h0
  have HN : Hid (w.heap.size = n) := hn
  have HE : Hid (∀ y, Below n w y → Errs ea y) := fun y hy => hE.below (by rw [hn]; exact hy)
  obtain ⟨W, hW⟩ : ∃ W, w.alloc (.cells zPR 26) = W := ⟨_, rfl⟩
  rw [hW] at h0
  have H0 : Hid (PO n w W) := h0
  have CT := table_any W
  obtain ⟨g, hg⟩ : ∃ g, W.heap.size = g := ⟨_, rfl⟩
  rw [hg] at CT
  clear h0 hE
  have hl : ∀ (Y : World), OM g tbl Y → (Instr.lookup 65 (.map (some g)) (.string t) true).run Tryz.prog Y = .ok (.tuple #[.agg #[.string (((tbF t).map (·.2)).getD ⟨#[]⟩)], .bool (tbF t).isSome]) Y := fun Y h => run_look h t true
  cases hf : tbF t with
  | none =>
    have HF : Hid (tbI t = none) := tbF_none hf
    simp only [hf, Option.map_none, Option.getD_none, Option.isSome_none] at hl
    have HL : Hid _ := hl
    clear hl hf
    go_enter Tryz.func13, Tryz.ntmps13
    go_upto_region 2 with (first
      | (go_at_call 24; refine CT.mono ?_; rintro e w1 ⟨rfl, hom, hb⟩; have hrl := HL.out _ hom; have H1 : Hid (PO n w w1) := H0.out.below (by rw [hg]; exact hb); clear hom hb CT HL))
    have h2 : PO n w (w1.alloc (.cells #[.string ⟨#[]⟩] 63)) := H1.out.below ((Below.refl _ _).alloc (Nat.le_refl _) _)
    obtain ⟨w2, hw2⟩ : ∃ w2, w1.alloc (.cells #[.string ⟨#[]⟩] 63) = w2 := ⟨_, rfl⟩
    rw [hw2] at h2 ⊢
    have hrow := h2.hp
    have H2 : Hid (PO n w w2) := h2
    clear h2 hrl hw2
    go_wp2_with (with_reducible refine at_list ?_; refine hold_store 26 (.tmp 2) (.tmp 16) rfl ?_)
    refine wpList_store_row rfl 26 (.tmp 2) (.tmp 16) rfl n zPR rfl rfl 26 zPR hrow (ipR _ _ _ _) rfl (by simp [zPR, Value.oneCell']) ?_
    go_wp2
    refine bodyPost_ret (v := .tuple #[.agg zPR, .bool false]) ?_ rfl ⟨by rw [HN.out]; exact below_setRow H2.out.old _ (Nat.le_refl _) _, _, _, _, by rw [HF.out]; rfl, by rw [HF.out]; exact ⟨ftp_zero _ _, owp_zero _ _⟩⟩
    exact results_row_tmp (P := Tryz.prog) (fn := Tryz.f13) (p := 2) (u := 3) (ty := 26) rfl _ _ n 26 _ (0, 0) _ _ rfl (setRow_heap _ _ _ _ 26 _ hrow) Tryz.underlying26 rfl (ipR _ _ _ _) rfl
  | some e =>
    obtain ⟨hek, hem⟩ := tbF_some hf
    obtain ⟨hpr, his, hsz⟩ := tbl_at hem
    rw [hek] at hpr his
    obtain ⟨nm, tx⟩ := e
    simp only at hpr hsz
    simp only [hf, Option.map_some, Option.getD_some, Option.isSome_some] at hl
    have HL : Hid _ := hl
    have HPR : Hid (prs tx = ((tbI t).getD zPt, 0) ∧ (tbI t).isSome = true) := ⟨hpr, his⟩
    have HCP : Hid (∀ y, Below n w y → Calls Tryz.prog 12 #[.string tx] y (PsO ea tx y)) := fun y hy => parse_own tx y (HE.out y hy) (by omega)
    clear hl hf hek hem hpr his hsz
    go_enter Tryz.func13, Tryz.ntmps13
    go_upto_region 2 with (first
      | (go_at_call 24; refine CT.mono ?_; rintro e w1 ⟨rfl, hom, hb⟩; have hrl := HL.out _ hom; have H1 : Hid (PO n w w1) := H0.out.below (by rw [hg]; exact hb); clear hom hb CT HL))
    have h2 : PO n w (w1.alloc (.cells #[.string tx] 63)) := H1.out.below ((Below.refl _ _).alloc (Nat.le_refl _) _)
    have c2 : (w1.alloc (.cells #[.string tx] 63)).cell? ⟨w1.heap.size, 0, none⟩ = some (.string tx) := by rw [cell_of_row _ _ _ _ _ _ (heap_alloc_new _ _)]; rfl
    obtain ⟨w2, hw2⟩ : ∃ w2, w1.alloc (.cells #[.string tx] 63) = w2 := ⟨_, rfl⟩
    obtain ⟨g2, hg2⟩ : ∃ g2, w1.heap.size = g2 := ⟨_, rfl⟩
    rw [hw2] at h2 c2 ⊢
    simp only [hg2] at c2 ⊢
    have H2 : Hid (PO n w w2) := h2
    clear h2 hrl hw2 hg2
    go_upto_region 4 with (fail)
    go_upto_region 5 with (go_at_call 12; refine (HCP.out w2 H2.out.old).mono ?_; unfold PsO; rw [HPR.out.1]; rintro e w3 ⟨hb, v0, v1, vl, rfl, hft, how⟩; obtain ⟨p0, q0, s0, rfl⟩ := hft.1.sl3; obtain ⟨p1, q1, s1, rfl⟩ := hft.2.1.sl3; obtain ⟨p2, q2, s2, rfl⟩ := hft.2.2.sl3; simp only [EV_0]; have H3 : Hid (PO n w w3 ∧ FtP (fun b => w2.heap.size ≤ b ∧ b < w3.heap.size) w3 (.slice p0 q0 s0) (.slice p1 q1 s1) (.slice p2 q2 s2) ((tbI t).getD zPt)) := ⟨H2.out.below hb, hft⟩; have HO3 : Hid (OwP w2.heap.size (.slice p0 q0 s0) (.slice p1 q1 s1) (.slice p2 q2 s2) ((tbI t).getD zPt) w3) := how; clear hb hft how)
    have h4 : PO n w (w3.alloc (.cells #[.string ((tbI t).getD zPt).nm, .slice p0 q0 s0, .slice p1 q1 s1, .slice p2 q2 s2] 26)) := H3.out.1.below ((Below.refl _ _).alloc (Nat.le_refl _) _)
    have hf4 : FtP (fun b => n + 1 ≤ b ∧ b < w3.heap.size + 1) (w3.alloc (.cells #[.string ((tbI t).getD zPt).nm, .slice p0 q0 s0, .slice p1 q1 s1, .slice p2 q2 s2] 26)) (.slice p0 q0 s0) (.slice p1 q1 s1) (.slice p2 q2 s2) ((tbI t).getD zPt) := (H3.out.2.keep (fun b hb => Below.heap_alloc _ _ _ hb.2)).mono (fun b hb => ⟨by have := hb.1; have := H2.out.sz; omega, by have := hb.2; omega⟩)
    rw [← size_alloc w3 (.cells #[.string ((tbI t).getD zPt).nm, .slice p0 q0 s0, .slice p1 q1 s1, .slice p2 q2 s2] 26)] at hf4
    have ho4 : OwP (n + 1) (.slice p0 q0 s0) (.slice p1 q1 s1) (.slice p2 q2 s2) ((tbI t).getD zPt) (w3.alloc (.cells #[.string ((tbI t).getD zPt).nm, .slice p0 q0 s0, .slice p1 q1 s1, .slice p2 q2 s2] 26)) := (HO3.out.keep (fun b _ hb => Below.heap_alloc _ _ _ hb)).dn (by have := H2.out.sz; omega)
    have hr4 := heap_alloc_new w3 (.cells #[.string ((tbI t).getD zPt).nm, .slice p0 q0 s0, .slice p1 q1 s1, .slice p2 q2 s2] 26)
    obtain ⟨x, hx⟩ : ∃ x, ((tbI t).getD zPt).nm = x := ⟨_, rfl⟩
    obtain ⟨g4, hg4⟩ : ∃ g4, w3.heap.size = g4 := ⟨_, rfl⟩
    obtain ⟨w4, hw4⟩ : ∃ w4, w3.alloc (.cells #[.string ((tbI t).getD zPt).nm, .slice p0 q0 s0, .slice p1 q1 s1, .slice p2 q2 s2] 26) = w4 := ⟨_, rfl⟩
    rw [hw4] at h4 hf4 ho4 hr4 ⊢
    have HO4 : Hid (OwP (n + 1) (.slice p0 q0 s0) (.slice p1 q1 s1) (.slice p2 q2 s2) ((tbI t).getD zPt) w4) := ho4
    clear ho4 HO3
    simp only [hg4] at hr4 ⊢
    rw [hx] at hr4
    simp only [hx]
    have H4 : Hid (PO n w w4) := h4
    have HF4 : Hid _ := hf4
    have hne : ¬ n = g4 := by have := H3.out.1.sz; omega
    have hne' : ¬ g4 = n := fun h => hne h.symm
    have k0 := cell_of_row w4 g4 0 _ _ _ hr4
    have k1 := cell_of_row w4 g4 1 _ _ _ hr4
    have k2 := cell_of_row w4 g4 2 _ _ _ hr4
    have k3 := cell_of_row w4 g4 3 _ _ _ hr4
    have n0 := cell_of_row w4 n 0 _ _ _ h4.hp
    have n1 := cell_of_row w4 n 1 _ _ _ h4.hp
    have n2 := cell_of_row w4 n 2 _ _ _ h4.hp
    have n3 := cell_of_row w4 n 3 _ _ _ h4.hp
    have f0 := frozen_of_row w4 n 0 _ _ h4.hp
    have f1 := frozen_of_row w4 n 1 _ _ h4.hp
    have f2 := frozen_of_row w4 n 2 _ _ h4.hp
    have f3 := frozen_of_row w4 n 3 _ _ h4.hp
    simp at k0 k1 k2 k3 n0 n1 n2 n3
    have HX : Hid (((tbI t).getD zPt).nm = x) := hx
    clear hw4 hg4 h4 hf4 hr4 c2 H3 hx hn hW hg
    go_region
    all_goals go_wp2
    obtain ⟨w9, hw9⟩ : ∃ w9, w9 = ((((w4.setCell ⟨n, 0, none⟩ (.string x)).setCell ⟨n, 1, none⟩ (.slice p0 q0 s0)).setCell ⟨n, 2, none⟩ (.slice p1 q1 s1)).setCell ⟨n, 3, none⟩ (.slice p2 q2 s2)).drew := ⟨_, rfl⟩
    have hh : w9.heap = ((((w4.setCell ⟨n, 0, none⟩ (.string x)).setCell ⟨n, 1, none⟩ (.slice p0 q0 s0)).setCell ⟨n, 2, none⟩ (.slice p1 q1 s1)).setCell ⟨n, 3, none⟩ (.slice p2 q2 s2)).heap := by rw [hw9]; rfl
    have hrow9 : w9.heap[n]? = some (.cells #[.string x, .slice p0 q0 s0, .slice p1 q1 s1, .slice p2 q2 s2] 26) := by
      rw [hh]
      exact four_row H4.out.hp _ _ _ _
    have hb9 : Below n w w9 := by
      rw [hw9]
      exact ((((H4.out.old.setCell (Nat.le_refl _) _).setCell (Nat.le_refl _) _).setCell (Nat.le_refl _) _).setCell (Nat.le_refl _) _).drew
    have hs9 : w9.heap.size = w4.heap.size := by rw [hh]; simp only [World.size_setCell]
    have hf9 : FtP (fun b => n ≤ b ∧ b < w9.heap.size) w9 (.slice p0 q0 s0) (.slice p1 q1 s1) (.slice p2 q2 s2) ((tbI t).getD zPt) := by
      refine (FtP.keep HF4.out (fun b hb => ?_)).mono (fun b hb => ⟨by have := hb.1; omega, by rw [hs9]; exact hb.2⟩)
      have h1 := hb.1
      rw [hh]
      rw [heap_setCell_other _ _ _ _ (by show b ≠ n; omega), heap_setCell_other _ _ _ _ (by show b ≠ n; omega), heap_setCell_other _ _ _ _ (by show b ≠ n; omega), heap_setCell_other _ _ _ _ (by show b ≠ n; omega)]
    have ho9 : OwP n (.slice p0 q0 s0) (.slice p1 q1 s1) (.slice p2 q2 s2) ((tbI t).getD zPt) w9 := by
      refine (HO4.out.keep (fun b hb _ => ?_)).dn (by omega)
      rw [hh]
      rw [heap_setCell_other _ _ _ _ (by show b ≠ n; omega), heap_setCell_other _ _ _ _ (by show b ≠ n; omega), heap_setCell_other _ _ _ _ (by show b ≠ n; omega), heap_setCell_other _ _ _ _ (by show b ≠ n; omega)]
    rw [← hw9]
    refine bodyPost_ret (v := .tuple #[.agg #[.string x, .slice p0 q0 s0, .slice p1 q1 s1, .slice p2 q2 s2], .bool true]) ?_ rfl ⟨by rw [HN.out]; exact hb9, _, _, _, by rw [HX.out, HPR.out.2], by rw [HN.out]; exact ⟨hf9, ho9⟩⟩
    exact results_row_tmp (P := Tryz.prog) (fn := Tryz.f13) (p := 2) (u := 3) (ty := 26) rfl _ _ n 26 _ (0, 0) _ _ rfl hrow9 Tryz.underlying26 rfl (ipR _ _ _ _) rfl
theorem find_any' {ea : Int → Addr} (t : ByteArray) (w : World) (hE : Errs ea w) :
    Calls Tryz.prog 13 #[.string t] w (FnP t w) :=
  (find_own t w hE).mono fun e w' ⟨hb, v0, v1, vl, he, hf, _⟩ => ⟨hb, v0, v1, vl, he, hf⟩
end Go.Proofs.YtpfidohkohldaaaGreatDoor
