import Derived.Test.YtlffamcifahbjabFldF
namespace Go.Proofs.Ytlffamcifahbjab
set_option linter.unusedSimpArgs false
open Go.ChangeShapes Go.WideShapes Go.ChangeAt Go.RowKit Go.Pin Go.Fld
/-- all but the cells S is as it lay -/
structure CW (S : Nat → Nat → Prop) (w w' : World) : Prop where
  os : w'.os = w.os
  tape : w'.tape = w.tape
  output : w'.output = w.output
  size : w'.heap.size = w.heap.size
  obj : ∀ k cs T fr, w.heap[k]? = some (.cells cs T fr) → ∃ cs', cs'.size = cs.size ∧ w'.heap[k]? = some (.cells cs' T fr) ∧ ∀ j, ¬ S k j → cs'[j]? = cs[j]?
  other : ∀ k, (∀ j, ¬ S k j) → w'.heap[k]? = w.heap[k]?
theorem CW.refl (S : Nat → Nat → Prop) (w : World) : CW S w w := ⟨rfl, rfl, rfl, rfl, fun _ cs _ _ h => ⟨cs, rfl, h, fun _ _ => rfl⟩, fun _ _ => rfl⟩
theorem CW.drew {S : Nat → Nat → Prop} {a w : World} (h : CW S a w) : CW S a w.drew := ⟨h.os, h.tape, h.output, h.size, h.obj, h.other⟩
theorem CW.setCell {S : Nat → Nat → Prop} {a w : World} (h : CW S a w) {g o : Nat} (hp : S g o) (v : Value) : CW S a (w.setCell ⟨g, o, none⟩ v) := by
  refine ⟨h.os, h.tape, h.output, by simpa using h.size, fun k cs T fr hk => ?_, fun k hk => ?_⟩
  · obtain ⟨cs', h1, h2, h3⟩ := h.obj k cs T fr hk
    by_cases e : k = g
    · subst e
      refine ⟨cs'.setIfInBounds o v, by simpa using h1, ?_, fun j hj => ?_⟩
      · simp [World.setCell, Array.getElem?_modify, h2]
      · rw [Array.getElem?_setIfInBounds_ne (fun e => hj (by rw [← e]; exact hp))]; exact h3 j hj
    · exact ⟨cs', h1, by rw [heap_setCell_other _ _ _ _ e]; exact h2, h3⟩
  · have e : k ≠ g := fun e => hk o (by rw [e]; exact hp)
    rw [heap_setCell_other _ _ _ _ e]; exact h.other k hk
theorem CW.cell {S : Nat → Nat → Prop} {w w' : World} (h : CW S w w') {k j : Nat} {v : Value} (hc : w.cell? ⟨k, j, none⟩ = some v) (hj : ¬ S k j) : w'.cell? ⟨k, j, none⟩ = some v := by
  cases ho : w.heap[k]? with
  | none => simp [World.cell?, ho] at hc
  | some o =>
    cases o with
    | cells cs T fr =>
      obtain ⟨cs', _, h2, h3⟩ := h.obj k cs T fr ho
      rw [cell_of_row _ _ _ _ _ _ ho] at hc
      rw [cell_of_row _ _ _ _ _ _ h2, h3 j hj]; exact hc
    | _ => simp [World.cell?, ho] at hc
theorem CW.row {S : Nat → Nat → Prop} {w w' : World} (h : CW S w w') {g : Nat} {T : TypeId} {a x : List Int} (ha : rowAt w g a T) (hl : x.length = a.length) (hc : ∀ j, j < a.length → w'.cell? ⟨g, j, none⟩ = some (.int .u64 (x.getD j 0))) : rowAt w' g x T := by
  obtain ⟨cs', h1, h2, _⟩ := h.obj g _ T (0, 0) ha
  unfold rowAt
  rw [h2]
  congr 2
  apply Array.ext_getElem?
  intro j
  by_cases hj : j < a.length
  · have := hc j hj
    rw [cell_of_row _ _ _ _ _ _ h2] at this
    rw [this, VI_at _ _ _ (by omega)]
  · rw [Array.getElem?_eq_none (by rw [h1, VI_size]; omega), Array.getElem?_eq_none (by rw [VI_size]; omega)]
theorem CW.frozen {S : Nat → Nat → Prop} {w w' : World} (h : CW S w w') {k j i : Nat} {v : Value} (hc : w.cell? ⟨k, j, none⟩ = some v) : w'.frozen? ⟨k, i, none⟩ = w.frozen? ⟨k, i, none⟩ := by
  cases ho : w.heap[k]? with
  | none => simp [World.cell?, ho] at hc
  | some o =>
    cases o with
    | cells cs T fr =>
      obtain ⟨cs', _, h2, h3⟩ := h.obj k cs T fr ho
      simp [World.frozen?, ho, h2]
    | _ => simp [World.cell?, ho] at hc
def spread64 (s : Int) : Int := IntKind.u64.wrap (-bits BinOp.and IntKind.u64 s 1)
theorem spread_eq (s : Int) (s0 : 0 ≤ s) (s1 : s < 18446744073709551616) : spread64 s = if s % 2 = 1 then ((BitVec.allOnes 64).toNat : Int) else ((0#64).toNat : Int) := by
  obtain ⟨z, rfl⟩ := ofBv64 s0 s1
  have hz : bits .and .u64 (z.toNat : Int) 1 = ((z.toNat % 2 : Nat) : Int) := by
    have := u64_and_nat z.toNat 1 z.isLt (by decide)
    rw [nat_mask1] at this
    exact this
  unfold spread64
  rcases Nat.mod_two_eq_zero_or_one z.toNat with h | h
  · rw [hz, h, if_neg (by omega)]; decide
  · rw [hz, h, if_pos (by omega)]; decide
theorem swx (s a b : Int) (s0 : 0 ≤ s) (s1 : s < 18446744073709551616) (a0 : 0 ≤ a) (a1 : a < 18446744073709551616) (b0 : 0 ≤ b) (b1 : b < 18446744073709551616) :
    bits .xor .u64 a (bits .and .u64 (spread64 s) (bits .xor .u64 a b)) = (if s % 2 = 1 then b else a) ∧ bits .xor .u64 b (bits .and .u64 (spread64 s) (bits .xor .u64 a b)) = (if s % 2 = 1 then a else b) := by
  obtain ⟨x, rfl⟩ := ofBv64 a0 a1
  obtain ⟨y, rfl⟩ := ofBv64 b0 b1
  rw [spread_eq s s0 s1]
  split
  · rw [xor64, and64, xor64, xor64, BitVec.allOnes_and]
    constructor
    · rw [← BitVec.xor_assoc]; simp
    · rw [BitVec.xor_comm x y, ← BitVec.xor_assoc]; simp
  · rw [xor64, and64, xor64, xor64]; simp
/-- the cells that Swap writes -/
def SS (ga oa gb ob g j : Nat) : Prop := (g = ga ∧ oa ≤ j ∧ j < oa + 5) ∨ (g = gb ∧ ob ≤ j ∧ j < ob + 5)
/-- what a round of Swap finds -/
structure SwI (ga oa gb ob : Nat) (w : World) (a b x y : List Int) (k : Nat) (wr : World) : Prop where
  cw : CW (SS ga oa gb ob) w wr
  ca : ∀ j, j < 5 → wr.cell? ⟨ga, oa + j, none⟩ = some (.int .u64 (if j < k then x.getD j 0 else a.getD j 0))
  cb : ∀ j, j < 5 → wr.cell? ⟨gb, ob + j, none⟩ = some (.int .u64 (if j < k then y.getD j 0 else b.getD j 0))
  fa : ∀ j, wr.frozen? ⟨ga, oa + j, none⟩ = false
  fb : ∀ j, wr.frozen? ⟨gb, ob + j, none⟩ = false
theorem SwI.drew {ga oa gb ob : Nat} {w wr : World} {a b x y : List Int} {k : Nat} (h : SwI ga oa gb ob w a b x y k wr) : SwI ga oa gb ob w a b x y k wr.drew := ⟨h.cw.drew, h.ca, h.cb, h.fa, h.fb⟩
theorem cell_set (w : World) (p q : Addr) (v : Value) (hq : (w.cell? q).isSome = true) : (w.setCell p v).cell? q = if q = p then some v else w.cell? q := by
  by_cases h : q = p
  · subst h
    obtain ⟨u, hu⟩ := Option.isSome_iff_exists.1 hq
    rw [if_pos rfl, World.cell?_setCell_same _ _ _ hu]
  · rw [if_neg h, World.cell?_setCell_other _ _ _ _ (fun e => h e.symm)]
theorem SwI.step {ga oa gb ob : Nat} {w wr : World} {a b x y : List Int} {k : Nat} (h : SwI ga oa gb ob w a b x y k wr) (hk : k < 5) (hd : ∀ i j, i < 5 → j < 5 → (⟨ga, oa + i, none⟩ : Addr) ≠ ⟨gb, ob + j, none⟩) :
    SwI ga oa gb ob w a b x y (k + 1) ((wr.setCell ⟨ga, oa + k, none⟩ (.int .u64 (x.getD k 0))).setCell ⟨gb, ob + k, none⟩ (.int .u64 (y.getD k 0))) := by
  refine ⟨(h.cw.setCell (.inl ⟨rfl, by omega, by omega⟩) _).setCell (.inr ⟨rfl, by omega, by omega⟩) _, fun j hj => ?_, fun j hj => ?_, fun j => ?_, fun j => ?_⟩
  · have hc := h.ca j hj
    rw [cell_set _ _ _ _ (by rw [cell_set _ _ _ _ (by rw [hc]; rfl)]; split; rfl; rw [hc]; rfl), if_neg (hd j k hj hk), cell_set _ _ _ _ (by rw [hc]; rfl)]
    by_cases e : j = k
    · subst e; rw [if_pos rfl, if_pos (by omega)]
    · rw [if_neg (by simp <;> omega), hc]
      by_cases e2 : j < k
      · rw [if_pos e2, if_pos (by omega)]
      · rw [if_neg e2, if_neg (by omega)]
  · have hc := h.cb j hj
    rw [cell_set _ _ _ _ (by rw [cell_set _ _ _ _ (by rw [hc]; rfl)]; split; rfl; rw [hc]; rfl)]
    by_cases e : j = k
    · subst e; rw [if_pos rfl, if_pos (by omega)]
    · rw [if_neg (by simp <;> omega), cell_set _ _ _ _ (by rw [hc]; rfl), if_neg (fun e => hd k j hk hj e.symm), hc]
      by_cases e2 : j < k
      · rw [if_pos e2, if_pos (by omega)]
      · rw [if_neg e2, if_neg (by omega)]
  · rw [World.frozen?_setCell, World.frozen?_setCell]; exact h.fa j
  · rw [World.frozen?_setCell, World.frozen?_setCell]; exact h.fb j
theorem SwI.step1 {ga oa : Nat} {w wr : World} {a : List Int} {k : Nat} (h : SwI ga oa ga oa w a a a a k wr) (hk : k < 5) :
    SwI ga oa ga oa w a a a a (k + 1) ((wr.setCell ⟨ga, oa + k, none⟩ (.int .u64 (a.getD k 0))).setCell ⟨ga, oa + k, none⟩ (.int .u64 (a.getD k 0))) := by
  have key : ∀ j, j < 5 → ((wr.setCell ⟨ga, oa + k, none⟩ (.int .u64 (a.getD k 0))).setCell ⟨ga, oa + k, none⟩ (.int .u64 (a.getD k 0))).cell? ⟨ga, oa + j, none⟩ = some (.int .u64 (if j < k + 1 then a.getD j 0 else a.getD j 0)) := fun j hj => by
    have hc := h.ca j hj
    rw [ite_self] at hc
    rw [ite_self, cell_set _ _ _ _ (by rw [cell_set _ _ _ _ (by rw [hc]; rfl)]; split; rfl; rw [hc]; rfl), cell_set _ _ _ _ (by rw [hc]; rfl)]
    by_cases e : j = k
    · subst e; rw [if_pos rfl]
    · rw [if_neg (by simp <;> omega), if_neg (by simp <;> omega), hc]
  exact ⟨(h.cw.setCell (.inl ⟨rfl, by omega, by omega⟩) _).setCell (.inl ⟨rfl, by omega, by omega⟩) _, key, key, fun j => by rw [World.frozen?_setCell, World.frozen?_setCell]; exact h.fa j, fun j => by rw [World.frozen?_setCell, World.frozen?_setCell]; exact h.fa j⟩
/-- a pair of lists as the bit says -/
def swp (s : Int) (a b : List Int) : List Int := if s % 2 = 1 then b else a
theorem swp_at (s : Int) (a b : List Int) (k : Nat) : (swp s a b).getD k 0 = if s % 2 = 1 then b.getD k 0 else a.getD k 0 := by unfold swp; split <;> rfl
set_option maxRecDepth 100000 in
set_option maxHeartbeats 1000000 in
theorem mswap_two (s : Int) (s0 : 0 ≤ s) (s1 : s < 18446744073709551616) (ga oa gb ob : Nat) (a b : List Int) (ha : Lim a) (hb : Lim b) (w : World) (h0 : SwI ga oa gb ob w a b (swp s a b) (swp s b a) 0 w) (hd : ∀ i j, i < 5 → j < 5 → (⟨ga, oa + i, none⟩ : Addr) ≠ ⟨gb, ob + j, none⟩) :
    Calls Try.prog 34 #[.int .u64 s, .pointer (some ⟨ga, oa, none⟩), .pointer (some ⟨gb, ob, none⟩)] w fun e w' => e = .returned (.tuple #[]) ∧ SwI ga oa gb ob w a b (swp s a b) (swp s b a) 5 w' := by
  have H0 : Hid (SwI ga oa gb ob w a b (swp s a b) (swp s b a) 0 w) := h0
  have HD : Hid (∀ i j, i < 5 → j < 5 → (⟨ga, oa + i, none⟩ : Addr) ≠ ⟨gb, ob + j, none⟩) := hd
  have HX : Hid (∀ k, k < 5 → bits .xor .u64 (a.getD k 0) (bits .and .u64 (spread64 s) (bits .xor .u64 (a.getD k 0) (b.getD k 0))) = (swp s a b).getD k 0 ∧ bits .xor .u64 (b.getD k 0) (bits .and .u64 (spread64 s) (bits .xor .u64 (a.getD k 0) (b.getD k 0))) = (swp s b a).getD k 0) := fun k hk => by
    obtain ⟨a0, a1⟩ := lim_at ha hk
    obtain ⟨b0, b1⟩ := lim_at hb hk
    rw [swp_at, swp_at]
    exact swx s _ _ s0 s1 a0 (by omega) b0 (by omega)
  clear h0 hd ha hb s0 s1
  go_enter Try.func34, Try.ntmps34
  go_wp2
  rw [show IntKind.u64.wrap (-bits BinOp.and IntKind.u64 s 1) = spread64 s from rfl]
  go_loopw [17] (fun i w' => ∃ k : Nat, k ≤ 5 ∧ i = .int .i64 k ∧ SwI ga oa gb ob w a b (swp s a b) (swp s b a) k w') (fun i _ => 5 - (intOf i).toNat)
  case atStart => exact ⟨0, Nat.zero_le _, rfl, H0.out⟩
  case round =>
    obtain ⟨k, hk, rfl, hp⟩ := hrel
    by_cases hlt : k < 5
    · have hcA := hp.ca k hlt
      have hcB := hp.cb k hlt
      rw [if_neg (by omega)] at hcA hcB
      have hfA := hp.fa k
      have hfB := hp.fb k
      have hne := HD.out k k hlt hlt
      have hne' := fun e => hne (Eq.symm e)
      obtain ⟨e1, e2⟩ := HX.out k hlt
      have HS : Hid (∀ W1, SwI ga oa gb ob w a b (swp s a b) (swp s b a) k W1 → SwI ga oa gb ob w a b (swp s a b) (swp s b a) (k + 1) ((W1.setCell ⟨ga, oa + k, none⟩ (.int .u64 ((swp s a b).getD k 0))).setCell ⟨gb, ob + k, none⟩ (.int .u64 ((swp s b a).getD k 0)))) := fun W1 h => h.step hlt HD.out
      generalize (swp s a b).getD k 0 = x at *
      generalize (swp s b a).getD k 0 = y at *
      generalize a.getD k 0 = ak at *
      generalize b.getD k 0 = bk at *
      have HP : Hid (SwI ga oa gb ob w a b (swp s a b) (swp s b a) k wr) := hp
      clear hp H0 HX HD
      go_wp2
      go_region
      go_wp2
      go_region
      go_wp2
      go_region
      go_wp2
      go_roundw
      case rel => exact ⟨k + 1, by omega, by go_num, (HS.out _ HP.out).drew.drew.drew⟩
      case measure => simp [intOf]; omega
    · have hk' : k = 5 := by omega
      subst hk'
      have HP : Hid (SwI ga oa gb ob w a b (swp s a b) (swp s b a) 5 wr) := hp
      clear hp
      go_wp2
      go_end0
      exact ⟨rfl, HP.out⟩
set_option maxRecDepth 100000 in
set_option maxHeartbeats 1000000 in
theorem mswap_one (s : Int) (s0 : 0 ≤ s) (s1 : s < 18446744073709551616) (ga oa : Nat) (a : List Int) (ha : Lim a) (w : World) (h0 : SwI ga oa ga oa w a a a a 0 w) :
    Calls Try.prog 34 #[.int .u64 s, .pointer (some ⟨ga, oa, none⟩), .pointer (some ⟨ga, oa, none⟩)] w fun e w' => e = .returned (.tuple #[]) ∧ SwI ga oa ga oa w a a a a 5 w' := by
  have H0 : Hid (SwI ga oa ga oa w a a a a 0 w) := h0
  have HX : Hid (∀ k, k < 5 → bits .xor .u64 (a.getD k 0) (bits .and .u64 (spread64 s) (bits .xor .u64 (a.getD k 0) (a.getD k 0))) = a.getD k 0) := fun k hk => by
    obtain ⟨a0, a1⟩ := lim_at ha hk
    have := (swx s (a.getD k 0) (a.getD k 0) s0 s1 a0 (by omega) a0 (by omega)).1
    rw [this, ite_self]
  clear h0 ha s0 s1
  go_enter Try.func34, Try.ntmps34
  go_wp2
  rw [show IntKind.u64.wrap (-bits BinOp.and IntKind.u64 s 1) = spread64 s from rfl]
  go_loopw [17] (fun i w' => ∃ k : Nat, k ≤ 5 ∧ i = .int .i64 k ∧ SwI ga oa ga oa w a a a a k w') (fun i _ => 5 - (intOf i).toNat)
  case atStart => exact ⟨0, Nat.zero_le _, rfl, H0.out⟩
  case round =>
    obtain ⟨k, hk, rfl, hp⟩ := hrel
    by_cases hlt : k < 5
    · have hcA := hp.ca k hlt
      rw [ite_self] at hcA
      have hfA := hp.fa k
      have e1 := HX.out k hlt
      have HS : Hid (∀ W1, SwI ga oa ga oa w a a a a k W1 → SwI ga oa ga oa w a a a a (k + 1) ((W1.setCell ⟨ga, oa + k, none⟩ (.int .u64 (a.getD k 0))).setCell ⟨ga, oa + k, none⟩ (.int .u64 (a.getD k 0)))) := fun W1 h => h.step1 hlt
      generalize a.getD k 0 = ak at *
      have HP : Hid (SwI ga oa ga oa w a a a a k wr) := hp
      clear hp H0 HX
      go_wp2
      go_region
      go_wp2
      go_region
      go_wp2
      go_region
      go_wp2
      go_roundw
      case rel => exact ⟨k + 1, by omega, by go_num, (HS.out _ HP.out).drew.drew.drew⟩
      case measure => simp [intOf]; omega
    · have hk' : k = 5 := by omega
      subst hk'
      have HP : Hid (SwI ga oa ga oa w a a a a 5 wr) := hp
      clear hp
      go_wp2
      go_end0
      exact ⟨rfl, HP.out⟩
end Go.Proofs.Ytlffamcifahbjab
