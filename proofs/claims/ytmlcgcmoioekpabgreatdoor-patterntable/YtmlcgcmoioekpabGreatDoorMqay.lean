import Derived.Lib.Join
import Derived.Test.YtmlcgcmoioekpabGreatDoorMqag
import Derived.Test.YtmlcgcmoioekpabGreatDoorMqah
/- fallback of a valid pattern: what it makes known is sorted, and nothing is known twice -/
namespace Go.Pat
theorem ahd_cases {l : List Int} (h : ahd l = true) : l = [] ∨ l = [1] ∨ l = [2] ∨ l = [1, 2] := by
  match l, h with
  | [], _ => exact .inl rfl
  | [a], h =>
    simp only [ahd, Bool.or_eq_true, beq_iff_eq] at h
    rcases h with rfl | rfl
    · exact .inr (.inl rfl)
    · exact .inr (.inr (.inl rfl))
  | [a, b], h =>
    simp only [ahd, Bool.and_eq_true, beq_iff_eq] at h
    obtain ⟨rfl, rfl⟩ := h
    exact .inr (.inr (.inr rfl))
  | _ :: _ :: _ :: _, h => simp [ahd] at h
theorem chk_first {p : Pt} {f : Int} {ts : List Int} {r : List Ln} (h : chk p = 0) (hp : p.ln = (f, ts) :: r) : (tks f.toNat (beg p) ts).2 = 0 := by
  have hs := chk_shaped h
  unfold chk at h
  rw [hs, if_neg (by simp)] at h
  by_cases hl : (lns (beg p) p.ln).2 = 0
  · rw [hp] at hl
    unfold lns at hl
    by_cases ht : (tks f.toNat (beg p) ts).2 = 0
    · exact ht
    · rw [if_pos ht] at hl
      exact hl
  · rw [if_pos hl] at h
    exact absurd h hl
def srtL (A : List Int) : List Int := A.mergeSort fun x y => decide (x ≤ y)
theorem srt_le {l m : List Int} (hp : l.Perm m) (hs : m.Pairwise fun x y => decide (x ≤ y) = true) : srtL l = m := by
  unfold srtL
  have tr : ∀ a b c : Int, decide (a ≤ b) = true → decide (b ≤ c) = true → decide (a ≤ c) = true := fun a b c h1 h2 => by simp only [decide_eq_true_eq] at *; omega
  have tz : ∀ a b : Int, (decide (a ≤ b) || decide (b ≤ a)) = true := fun a b => by simp; omega
  exact List.Perm.eq_of_pairwise (le := fun a b => decide (a ≤ b) = true) (fun a b _ _ h1 h2 => by simp only [decide_eq_true_eq] at h1 h2; omega) (List.pairwise_mergeSort tr tz l) hs ((List.mergeSort_perm l _).trans hp)
theorem srt_0 : srtL [] = [] := srt_le (List.Perm.refl _) (by simp)
theorem srt_1 (a : Int) : srtL [a] = [a] := srt_le (List.Perm.refl _) (by simp)
theorem srt_12 : srtL [1, 2] = [1, 2] := srt_le (List.Perm.refl _) (by decide)
theorem srt_21 : srtL [2, 1] = [1, 2] := srt_le (List.Perm.swap _ _ _) (by decide)
theorem bck_ok {p : Pt} {f : Int} {ts : List Int} {r : List Ln} (h : chk p = 0) (hp : p.ln = (f, ts) :: r) (ha : ahd ts = true) :
    bck p = some (if f = 1 then ⟨p.nm, p.b0, srtL (p.b1 ++ ts), r⟩ else ⟨p.nm, srtL (p.b0 ++ ts), p.b1, r⟩) := by
  have ht := chk_first h hp
  have hs := chk_shaped h
  unfold shaped at hs
  simp only [Bool.and_eq_true] at hs
  have hf : f = 0 ∨ f = 1 := by
    have := hs.2
    rw [hp, shp_split] at this
    simp only [Bool.and_eq_true, decide_eq_true_eq] at this
    exact this.1.1.1.1.1
  have h0 := ahd_cases hs.1.1.1
  have h1 := ahd_cases hs.1.1.2
  unfold bck
  unfold beg at ht
  rw [hp]
  obtain ⟨nm, b0, b1, ln⟩ := p
  simp only at h0 h1 ht ⊢
  clear hs h hp
  rcases ahd_cases ha with rfl | rfl | rfl | rfl <;> rcases hf with rfl | rfl <;> rcases h0 with rfl | rfl | rfl | rfl <;> rcases h1 with rfl | rfl | rfl | rfl <;>
    first
      | (exfalso; revert ht; decide)
      | (simp [ahd, eCnt, sCnt, kn, srt_0, srt_1, srt_12, srt_21]; done)
end Go.Pat
/- the words of a modified pattern's name -/
namespace Go.Pat
theorem nmb_size {s : ByteArray} (h : 0 ≤ nmb s) : s.size ≤ 6 := by
  unfold nmb at h
  split at h
  · omega
  · omega
theorem wd1_size {b : Bool} {p : Pt} {l : Int} {s : ByteArray} {x : Pt × Int} (h : wd1 b p l s = some x) : s.size ≤ 8 := by
  unfold wd1 at h
  split at h
  · rename_i h1
    rw [h1.1]
    decide
  · split at h
    · cases h
    · rename_i _ h2
      have := nmb_size (s := s) (by omega)
      omega
theorem wdsM_pre {p : Pt} {ws : List ByteArray} : ∀ {i : Nat} {x : Pt × Int}, wdsM p ws i = some x → ∀ j, j < i → (ws.getD j ⟨#[]⟩).size ≤ 8
  | 0, x, h, j, hj => absurd hj (Nat.not_lt_zero _)
  | i + 1, x, h, j, hj => by
    unfold wdsM at h
    cases e : wdsM p ws i with
    | none => rw [e] at h; cases h
    | some y =>
      obtain ⟨q, l⟩ := y
      rw [e] at h
      simp only at h
      by_cases hji : j = i
      · rw [hji]; exact wd1_size h
      · exact wdsM_pre e j (by omega)
theorem wdsM_none {p : Pt} {ws : List ByteArray} {i : Nat} (h : wdsM p ws i = none) : ∀ k, wdsM p ws (i + k) = none
  | 0 => h
  | k + 1 => by
    show wdsM p ws (i + k + 1) = none
    unfold wdsM
    rw [wdsM_none h k]
theorem join_snoc (sep : List UInt8) : ∀ (xs : List (List UInt8)) (y : List UInt8), Lib.join (xs ++ [y]) sep = if xs = [] then y else Lib.join xs sep ++ sep ++ y
  | [], y => by simp [Lib.join, List.intercalate]
  | [x], y => by simp [Lib.join, List.intercalate]
  | x :: z :: r, y => by
    have ih := join_snoc sep (z :: r) y
    rw [if_neg (by simp)] at ih ⊢
    have e : ∀ (a b : List UInt8) (l : List (List UInt8)), Lib.join (a :: b :: l) sep = a ++ sep ++ Lib.join (b :: l) sep := fun a b l => by simp [Lib.join, List.intercalate]
    rw [List.cons_append, List.cons_append, e, ← List.cons_append, ih, e]
    simp
theorem nmN_join (nm : ByteArray) (ws : List ByteArray) : ∀ i, i ≤ ws.length → toL (nmN nm ws i) = toL nm ++ Lib.join ((ws.take i).map toL) [43]
  | 0, _ => by simp [nmN, Lib.join, List.intercalate]
  | i + 1, h => by
    have ih := nmN_join nm ws i (by omega)
    have hi : i < ws.length := by omega
    rw [List.take_add_one, List.getElem?_eq_getElem hi]
    simp only [Option.toList, List.map_append, List.map_cons, List.map_nil]
    rw [join_snoc]
    have hg : ws.getD i ⟨#[]⟩ = ws[i] := by simp [List.getD, hi]
    unfold nmN
    rw [hg]
    have ha : ∀ a b : ByteArray, toL (a ++ b) = toL a ++ toL b := fun a b => by simp [toL]
    by_cases h0 : i = 0
    · subst h0
      rw [if_pos rfl, if_pos (by simp), ha]
      rfl
    · rw [if_neg h0, if_neg (by simp [h0]; intro e; rw [e] at hi; simp at hi), ha, ha, ih]
      simp [toL]
theorem join_len : ∀ (xs : List (List UInt8)), (∀ x ∈ xs, x.length ≤ 8) → (Lib.join xs [43]).length ≤ 9 * xs.length
  | [], _ => by simp [Lib.join, List.intercalate]
  | [x], h => by
    have := h x (by simp)
    simp [Lib.join, List.intercalate]
    omega
  | x :: z :: r, h => by
    have ih := join_len (z :: r) (fun y hy => h y (List.mem_cons_of_mem _ hy))
    have h1 := h x List.mem_cons_self
    have e : Lib.join (x :: z :: r) [43] = x ++ [43] ++ Lib.join (z :: r) [43] := by simp [Lib.join, List.intercalate]
    rw [e, List.length_append, List.length_append]
    simp only [List.length_cons, List.length_nil] at ih ⊢
    omega
end Go.Pat
