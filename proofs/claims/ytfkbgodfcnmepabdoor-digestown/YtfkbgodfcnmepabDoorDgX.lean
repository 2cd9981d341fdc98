import Derived.Test.YtfkbgodfcnmepabDoorDgB
namespace Go.Proofs.YtfkbgodfcnmepabDoor
set_option linter.unusedSimpArgs false
set_option linter.unusedVariables false
open Go.ChangeShapes Go.WideShapes Go.ChangeAt Go.RowKit Go.Pin Go.Str Go.Dig
/-- where what is behind k bytes begins -/
def adv (a : Option Addr) (cap k : Nat) : Option Addr := if cap = k then a else a.map (·.add k)
theorem run_from (w : World) (a : Option Addr) (n cap k : Nat) (x : Int) (hx : x = (k : Int)) (hk : k ≤ n) (hn : n ≤ cap) : (Instr.slice 22 (.slice a n cap) (some (.int .i64 x)) none none).run Tryd.prog w = .ok (.slice (adv a cap k) (n - k) (cap - k)) w := by
  subst hx
  have h1 : ((k : Nat) : Int) ≤ (n : Int) := by omega
  have h2 : ((n : Nat) : Int) ≤ (cap : Int) := by omega
  simp [Instr.slice, run_underlying Tryd.underlying22, Instr.sliceBounds, run_sliceBound, size_u8, sliced, h1, h2, hk, hn, adv]
theorem Src.from' {B : Nat} {w : World} {bx : List (Nat × Obj)} {a : Option Addr} {n cap : Nat} {D : List Int} (h : Src B w bx (.slice a n cap) D) (k : Nat) (hk : k ≤ n) : Src B w bx (.slice (adv a cap k) (n - k) (cap - k)) (D.drop k) := by
  obtain ⟨a', cap', e, hc, h3⟩ := h
  injection e with e1 e2 e3
  subst e1; subst e3
  have hn : D.length = n := e2.symm
  refine ⟨_, _, by rw [List.length_drop, hn], by rw [List.length_drop]; omega, ?_⟩
  by_cases hkn : k = n
  · left; exact List.drop_eq_nil_of_le (by omega)
  · rcases h3 with h3 | ⟨b, o, h3, h4⟩
    · rw [h3] at hn; simp at hn; omega
    · right
      refine ⟨b, o + k, by unfold adv; rw [if_neg (by omega), h3]; simp [add_mid], fun W hW hq j v hv => ?_⟩
      have := h4 W hW hq (k + j) v (by rw [List.map_drop, List.getElem?_drop] at hv; exact hv)
      rw [← Nat.add_assoc] at this
      exact this
theorem Src.len {B : Nat} {w : World} {bx : List (Nat × Obj)} {a : Option Addr} {n cap : Nat} {D : List Int} (h : Src B w bx (.slice a n cap) D) : D.length = n ∧ n ≤ cap := by
  obtain ⟨a', cap', e, hc, h3⟩ := h; injection e with e1 e2 e3; exact ⟨e2.symm, by rw [e2, e3]; exact hc⟩
theorem Src.range {B : Nat} {w : World} {bx : List (Nat × Obj)} {a : Option Addr} {n cap : Nat} {D : List Int} (h : Src B w bx (.slice a n cap) D) (h0 : 0 < n) : ∃ b o, a = some ⟨b, o, none⟩ ∧ ∀ W, Below B w W → (∀ q ∈ bx, W.heap[q.1]? = some q.2) → W.rangeAt b o (D.map (Value.int .u8)) := by
  obtain ⟨a', cap', e, hc, h3⟩ := h; injection e with e1 e2 e3; subst e1
  rcases h3 with h3 | h3
  · rw [h3] at e2; simp at e2; omega
  · exact h3
theorem range_take {W : World} {b o : Nat} {cs : List Value} (h : W.rangeAt b o cs) (k : Nat) : W.rangeAt b o (cs.take k) := fun j v hv => h j v (by rw [List.getElem?_take] at hv; split at hv; (exact hv); (cases hv))
/-- a Hash that has taken A and pressed q blocks of it, with room in its block -/
def HSm (rv : Value) (size : Nat) (h : List Nat) (A : List Int) (q : Nat) (blk : List Int) : Prop :=
  blk.length = 64 ∧ Byb blk ∧ 64 * q ≤ A.length ∧ A.length - 64 * q < 64 ∧ blk.take (A.length - 64 * q) = A.drop (64 * q)
def hsm (rv : Value) (size : Nat) (h : List Nat) (A : List Int) (q : Nat) (blk : List Int) : Obj := hsO rv size (prn h A q) (64 * q) blk (A.length - 64 * q)
section
variable {rv : Value} {s : Nat} {h : List Nat} {A : List Int}
/-- a Hash's block -/
def HSb (A blk : List Int) : Prop := blk.length = 64 ∧ Byb blk ∧ blk.take (hld A).length = hld A
def hst (rv : Value) (s : Nat) (h : List Nat) (A blk : List Int) : Obj := hsO rv s (prn h A (nbl A.length)) (64 * nbl A.length) blk (hld A).length
theorem HSt.blk {o : Obj} (hS : HSt rv s h A o) : ∃ blk, HSb A blk ∧ o = hst rv s h A blk := by
  obtain ⟨blk, h1, h2, h3, h4⟩ := hS
  exact ⟨blk, ⟨h1, h2, h3⟩, h4⟩
theorem HSb.st {blk : List Int} (hS : HSb A blk) : HSt rv s h A (hst rv s h A blk) := ⟨blk, hS.1, hS.2.1, hS.2.2, rfl⟩
theorem HSb.room {blk : List Int} (hS : HSb A blk) (hlt : (hld A).length < 64) : HSm rv s h A (nbl A.length) blk ∧ hst rv s h A blk = hsm rv s h A (nbl A.length) blk := by
  have e := hld_len A
  have := nbl_le A.length
  refine ⟨⟨hS.1, hS.2.1, this, by omega, ?_⟩, ?_⟩
  · rw [← e]; exact hS.2.2
  · unfold hst hsm; rw [e]
theorem HSb.full {blk : List Int} (hS : HSb A blk) (h64 : (hld A).length = 64) : HSm rv s h A (nbl A.length + 1) blk ∧ prs (prn h A (nbl A.length)) blk (64 * nbl A.length + 64) 0 = prn h A (nbl A.length + 1) ∧ A.length = 64 * (nbl A.length + 1) := by
  have e := hld_len A
  have := nbl_le A.length
  have eb : blk = hld A := by
    have := hS.2.2
    rw [h64, List.take_of_length_le (by rw [hS.1]; exact Nat.le_refl _)] at this
    exact this
  refine ⟨⟨hS.1, hS.2.1, by omega, by omega, ?_⟩, ?_, by omega⟩
  · rw [show A.length - 64 * (nbl A.length + 1) = 0 by omega, List.take_zero, List.drop_eq_nil_of_le (by omega)]
  · rw [prn, eb, hld, List.take_of_length_le (by rw [List.length_drop]; omega), Nat.mul_add]
theorem HSm.add {q : Nat} {blk X : List Int} (hS : HSm rv s h A q blk) (hX : Byb X) (h0 : 0 < X.length) (hle : X.length ≤ 64 - (A.length - 64 * q)) :
    HSb (A ++ X) (putb blk (A.length - 64 * q) X) ∧ hsO rv s (prn h A q) (64 * q) (putb blk (A.length - 64 * q) X) (A.length - 64 * q + X.length) = hst rv s h (A ++ X) (putb blk (A.length - 64 * q) X) ∧ nbl (A ++ X).length = q ∧ (hld (A ++ X)).length = A.length - 64 * q + X.length := by
  obtain ⟨h1, h2, h3, h4, h5⟩ := hS
  have eq : nbl (A ++ X).length = q := by
    rw [List.length_append]; unfold nbl; omega
  have eh : hld (A ++ X) = A.drop (64 * q) ++ X := by
    unfold hld; rw [eq, List.drop_append_of_le_length h3]
  have el : (hld (A ++ X)).length = A.length - 64 * q + X.length := by rw [eh, List.length_append, List.length_drop]
  have ep : putb blk (A.length - 64 * q) X = A.drop (64 * q) ++ (X ++ blk.drop (A.length - 64 * q + X.length)) := by
    rw [putb_at _ _ _ (by rw [h1]; omega), h5]
  refine ⟨⟨by rw [putb_len]; exact h1, ?_, ?_⟩, ?_, eq, el⟩
  · rw [ep]
    intro x hx
    rcases List.mem_append.1 hx with hx | hx
    · rw [← h5] at hx; exact h2 x (List.mem_of_mem_take hx)
    · rcases List.mem_append.1 hx with hx | hx
      · exact hX x hx
      · exact h2 x (List.mem_of_mem_drop hx)
  · rw [ep, ← List.append_assoc, ← eh, List.take_left']
    rfl
  · unfold hst
    rw [el, eq, prn_app _ _ _ _ h3]
end
/-- enough rounds -/
theorem wlg_fuel : ∀ (f f' h n : Nat), n < f → n < f' → h ≤ 64 → wlg f h n = wlg f' h n
  | 0, _, _, _, h1, _, _ => by omega
  | _ + 1, 0, _, _, _, h2, _ => by omega
  | f + 1, f' + 1, h, n, h1, h2, hh => by
    simp only [wlg]
    by_cases hn : n = 0
    · rw [if_pos hn, if_pos hn]
    · rw [if_neg hn, if_neg hn]
      by_cases h64 : h = 64
      · rw [if_pos h64, if_pos h64, wlg_fuel f f' (min 64 n) (n - min 64 n) (by omega) (by omega) (by omega)]
      · rw [if_neg h64, if_neg h64, wlg_fuel f f' (h + min (64 - h) n) (n - min (64 - h) n) (by omega) (by omega) (by omega)]
def wl (h n : Nat) : List (Int × Int) := wlg (n + 1) h n
theorem wl_zero (h : Nat) : wl h 0 = [(1, 0)] := by simp [wl, wlg]
theorem wl_full {n k : Nat} (hn : 0 < n) (hk : min 64 n = k) : wl 64 n = [(1, 1), (1, 1), (3, 31), (2, 0), (2, (k : Int))] ++ wl k (n - k) := by
  unfold wl
  rw [wlg, if_neg (by omega), if_pos rfl, hk, wlg_fuel n (n - k + 1) k (n - k) (by omega) (by omega) (by omega)]
theorem wl_room {h n k : Nat} (hh : h < 64) (hn : 0 < n) (hk : min (64 - h) n = k) : wl h n = [(1, 1), (1, 0), (2, (h : Int)), (2, (k : Int))] ++ wl (h + k) (n - k) := by
  unfold wl
  rw [wlg, if_neg (by omega), if_neg (by omega), hk, wlg_fuel n (n - k + 1) (h + k) (n - k) (by omega) (by omega) (by omega)]
theorem wl_len : ∀ (N h n : Nat), n < N → h ≤ 64 → (wl h n).length ≤ 1 + 5 * (if n = 0 then 0 else if h = 64 then (n + 63) / 64 else (n + h + 63) / 64)
  | 0, _, _, h1, _ => by omega
  | N + 1, h, n, h1, hh => by
    by_cases hn : n = 0
    · subst hn; rw [wl_zero]; simp
    · by_cases h64 : h = 64
      · subst h64
        obtain ⟨k, hk⟩ : ∃ k, min 64 n = k := ⟨_, rfl⟩
        have ih := wl_len N k (n - k) (by omega) (by omega)
        rw [wl_full (by omega) hk, List.length_append, if_neg hn, if_pos rfl]
        simp only [List.length_cons, List.length_nil]
        split at ih
        · omega
        · split at ih <;> omega
      · obtain ⟨k, hk⟩ : ∃ k, min (64 - h) n = k := ⟨_, rfl⟩
        have ih := wl_len N (h + k) (n - k) (by omega) (by omega)
        rw [wl_room (by omega) (by omega) hk, List.length_append, if_neg hn, if_neg h64]
        simp only [List.length_cons, List.length_nil]
        split at ih
        · omega
        · split at ih <;> omega
theorem wl_short (h n : Nat) (hh : h ≤ 64) : (wl h n).length ≤ n + 11 := by
  have := wl_len (n + 1) h n (by omega) hh
  split at this
  · omega
  · split at this <;> omega
end Go.Proofs.YtfkbgodfcnmepabDoor
