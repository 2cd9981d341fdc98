import Derived.Test.YtefnlaookmpbhaaStrT
namespace Go.Proofs.Ytefnlaookmpbhaa
set_option linter.unusedSimpArgs false
set_option linter.unusedVariables false
open Go.ChangeShapes Go.WideShapes Go.ChangeAt Go.RowKit Go.Pin Go.Str
/-- a box that a call has made -/
theorem Ev.fresh {B : Nat} {w : World} {rv : Value} {l : List (Int × Int)} {bx : List (Nat × Obj)} {W W' : World} (h : Ev B w rv l bx W) (hb : Below W.heap.size W W') {g : Nat} (hg : W.heap.size ≤ g) {x : Obj} (hx : W'.heap[g]? = some x) : Ev B w rv l ((g, x) :: bx) W' := by
  have h' := h.below hb
  refine ⟨h'.old, h'.le, fun p hp => ?_, fun p hp => ?_, ?_⟩
  · rcases List.mem_cons.1 hp with rfl | hp
    · exact Nat.le_trans h.le hg
    · exact h.ge p hp
  · rcases List.mem_cons.1 hp with rfl | hp
    · exact hx
    · exact h'.at' p hp
  · rcases h.rc with e | ⟨R, vs, e, h2, h3⟩
    · exact .inl e
    · refine .inr ⟨R, vs, e, h2.below hb, fun p hp => ?_⟩
      rcases List.mem_cons.1 hp with rfl | hp
      · intro hk; have := h2.lt _ hk; omega
      · exact h3 p hp
theorem xor_nil {B : Nat} {w : World} {bx : List (Nat × Obj)} {W : World} {key nonce : List Nat} {c : Nat} (hkn : Bs 32 key ∧ Bs 12 nonce ∧ c < 4294967296) {g : Nat} {L : List Nat} {T : TypeId} {fr : Nat × Nat} (h : Ev B w (.pointer none) [] ((g, .cells (VN .u8 L) T fr) :: bx) W) (hne : ∀ p ∈ bx, p.1 ≠ g) (hf : fr = (0, 0) ∨ L.length ≤ fr.1) (hL : ∀ y ∈ L, y < 256) (o n cap : Nat) (hn : n ≤ 131072) (hcap : n ≤ cap) (ho : o + n ≤ L.length) :
    Calls Try.prog 17 #[.pointer none, .agg (VN .u8 key), .int .u32 (c : Int), .agg (VN .u8 nonce), .slice (some ⟨g, o, none⟩) n cap] W fun e w' => e = .returned (.tuple #[]) ∧ Ev B w (.pointer none) [] ((g, .cells (VN .u8 (xr L o n (ks key c nonce))) T fr) :: bx) w' := by
  have := xor_any { B := B, w := w, rv := .pointer none, l := [], key := key, c := c, nonce := nonce, g := g, L := L, T := T, fr := fr, o := o, bx := bx } n cap ⟨hkn.1, hkn.2.1, hkn.2.2, hne, hf, hL, by simp, ho⟩ hn hcap W h
  refine this.mono ?_
  rintro e w' ⟨he, h'⟩
  exact ⟨he, h'.nilOf []⟩
theorem xr_twice (L : List Nat) (o n : Nat) (f : Nat → Nat) : xr (xr L o n f) o n f = L := by
  apply list_ext (by rw [xr_len, xr_len])
  intro j hj
  rw [xr_len, xr_len] at hj
  rw [xr_at _ _ _ _ _ (by rw [xr_len]; exact hj), xr_at _ _ _ _ _ hj]
  by_cases h : o ≤ j ∧ j < o + n
  · rw [if_pos h, if_pos h, Nat.xor_assoc, Nat.xor_self, Nat.xor_zero]
  · rw [if_neg h, if_neg h]
theorem room_sub (D : List Nat) : sub (room D) 0 D.length = D := by
  have l1 : (sub (room D) 0 D.length).length = D.length := sub_len _ _ _ (by rw [room_len]; omega)
  apply list_ext l1
  intro j hj
  rw [l1] at hj
  rw [sub_at _ _ _ _ hj, Nat.zero_add, room_at _ _ (by omega), if_pos hj]
theorem room_xr (D : List Nat) (f : Nat → Nat) (n j : Nat) (hn : n = D.length) (hj : n ≤ j) (hl : j < D.length + 70) : (xr (room D) 0 n f).getD j 0 = 161 + j % 7 := by
  rw [xr_at _ _ _ _ _ (by rw [room_len]; exact hl), if_neg (by omega), room_at _ _ hl, if_neg (by omega)]
end Go.Proofs.Ytefnlaookmpbhaa
