import Derived.Test.YtigapdfefapdgaaTraceSn1
namespace Go.Proofs.Ytigapdfefapdgaa
set_option linter.unusedSimpArgs false
open Go.ChangeShapes Go.WideShapes Go.ChangeAt Go.RowKit Go.Pin
def nines (k : Nat) : List (Int × Int) := List.replicate k (3, 9)
theorem nines_succ (A : List (Int × Int)) (k : Nat) : A ++ nines k ++ [(3, 9)] = A ++ nines (k + 1) := by
  rw [List.append_assoc]
  unfold nines
  rw [List.replicate_succ']
theorem beh_app0 (A M : List (Int × Int)) (n : Int) (h : 0 < (beh A n).length) : (beh (A ++ M) n)[0]? = (beh A n)[0]? := by
  unfold beh at h ⊢
  rw [List.length_drop] at h
  rw [List.getElem?_drop, List.getElem?_drop, List.getElem?_append_left (by omega)]
theorem evC_pre (A M : List (Int × Int)) (j : Nat) (x : Value) (h : (evC A)[j]? = some x) : (evC (A ++ M))[j]? = some x := by
  rw [evC_app, List.getElem?_append_left (List.getElem?_eq_some_iff.1 h).1]
  exact h
/-- the list as it stood is still there where the row was not left -/
theorem old_sl {B R : Nat} {X : World} {vs vs' : Value} {A M : List (Int × Int)} {Y : World} (ho : Y.ownsRow B 37 2 vs A.length (evC A)) (r : Rec B X R vs' (A ++ M)) (he : vs'.ownBlock = vs.ownBlock) : Sl X vs 2 (evC A) A.length := by
  refine ⟨ho.1, ?_⟩
  rcases ho.2 with ⟨rfl, h0⟩ | ⟨g, cap, cur, rfl, _, _, hnc, _⟩
  · exact ⟨none, 0, by rw [h0], by omega, .inl h0⟩
  · refine ⟨_, cap, rfl, hnc, .inr ⟨g, 0, rfl, fun j x hx => ?_⟩⟩
    have := r.2.2.cells (g := g) he j x (evC_pre A M j x hx)
    rwa [add_mid] at this
theorem old_sl2 {B : Nat} {X : World} {vs vs' : Value} {A M : List (Int × Int)} {Y Z : World} (ho : Y.ownsRow B 37 2 vs A.length (evC A)) (ho' : Z.ownsRow B 37 2 vs' (A ++ M).length (evC (A ++ M))) (he : vs'.ownBlock = vs.ownBlock) (hs : Sl X vs' 2 (evC (A ++ M)) (A ++ M).length) : Sl X vs 2 (evC A) A.length := by
  refine ⟨ho.1, ?_⟩
  rcases ho.2 with ⟨rfl, h0⟩ | ⟨g, cap, cur, rfl, _, _, hnc, _⟩
  · exact ⟨none, 0, by rw [h0], by omega, .inl h0⟩
  · refine ⟨_, cap, rfl, hnc, ?_⟩
    rcases ho'.2 with ⟨rfl, _⟩ | ⟨g', cap', cur', rfl, _⟩
    · cases he
    · cases he
      obtain ⟨_, a, c, e, _, hr⟩ := hs
      cases e
      rcases hr with h0 | ⟨b, o, e, hc⟩
      · rw [List.length_append] at h0
        exact .inl (by omega)
      · cases e
        exact .inr ⟨_, 0, rfl, fun j x hx => hc j x (evC_pre A M j x hx)⟩
/-- what holds between two rounds of TraceSince's loop -/
def Jt (w : World) (B bS bR bK bW bA b1 b2 bT bG bO R : Nat) (vW u vs : Value) (n stop : Int) (all : Bool) (A : List (Int × Int)) (ov : Bool) (k : Nat) (X : World) : Prop :=
  ∃ vs', St bS bR bK bW bA b1 b2 bT bG bO R vW n stop all X k ov ∧ Rec B X R vs' (A ++ nines k) ∧ Sl X vs 2 (evC A) A.length ∧ Sl X u 2 (evC A) A.length ∧ Sl X vW 2 (evC (beh A n)) (beh A n).length ∧
    (∀ j, vW.ownBlock = some j ∨ u.ownBlock = some j → ¬ IsBox bS bR bK bW bA b1 b2 bT bG bO j ∧ ¬ Blk R vs' j ∧ j < X.heap.size) ∧
    (vs'.ownBlock = vs.ownBlock ∨ ∀ j, vs.ownBlock = some j → ¬ Blk R vs' j ∧ ¬ IsBox bS bR bK bW bA b1 b2 bT bG bO j ∧ j < X.heap.size) ∧ B ≤ X.heap.size ∧ Below w.heap.size w X
theorem Jt.alloc {w : World} {B bS bR bK bW bA b1 b2 bT bG bO R : Nat} {vW u vs : Value} {n stop : Int} {all : Bool} {A : List (Int × Int)} {ov : Bool} {k : Nat} {X : World} (h : Jt w B bS bR bK bW bA b1 b2 bT bG bO R vW u vs n stop all A ov k X) (o : Obj) :
    Jt w B bS bR bK bW bA b1 b2 bT bG bO R vW u vs n stop all A ov k (X.alloc o) := by
  obtain ⟨vs', st, r, s1, s2, s3, d1, d2, hB, hb⟩ := h
  have g : Below X.heap.size X (X.alloc o) := (Below.refl _ _).alloc (Nat.le_refl _) _
  have hs : X.heap.size ≤ (X.alloc o).heap.size := g.size
  refine ⟨vs', st.below g, r.below g, sl_below g s1, sl_below g s2, sl_below g s3, fun j hj => ?_, ?_, Nat.le_trans hB hs, hb.alloc hb.size _⟩
  · obtain ⟨a, b, c⟩ := d1 j hj
    exact ⟨a, b, Nat.lt_of_lt_of_le c hs⟩
  · rcases d2 with d2 | d2
    · exact .inl d2
    · exact .inr fun j hj => ⟨(d2 j hj).1, (d2 j hj).2.1, Nat.lt_of_lt_of_le (d2 j hj).2.2 hs⟩
theorem Jt.step {w : World} {B bS bR bK bW bA b1 b2 bT bG bO R : Nat} {vW u vs : Value} {n stop : Int} {all : Bool} {A : List (Int × Int)} {Y : World} (ho : Y.ownsRow B 37 2 vs A.length (evC A)) (hw : w.heap.size ≤ B) (hbx : ∀ j, IsBox bS bR bK bW bA b1 b2 bT bG bO j → w.heap.size ≤ j) (hd : Ord bS bR bK bW bA b1 b2 bT bG bO)
    {k : Nat} {X : World} (h : Jt w B bS bR bK bW bA b1 b2 bT bG bO R vW u vs n stop all A false k X) (x1 x2 : Int) (hx : (beh A n)[k]? = some (x1, x2)) (q : Bool) (hq : ((k : Int) + 1 == stop) = q) (hA : A.length ≤ 2000) :
    Calls Try.prog 24 #[.agg #[.int .i64 x1, .int .i64 x2], .pointer (some ⟨bO, 0, none⟩), .pointer (some ⟨bG, 0, none⟩), .pointer (some ⟨bW, 0, none⟩), .pointer (some ⟨bK, 0, none⟩), .pointer (some ⟨bT, 0, none⟩), .pointer (some ⟨bR, 0, none⟩), .pointer (some ⟨bS, 0, none⟩), .pointer (some ⟨bA, 0, none⟩)] X fun e X' =>
      e = .returned (.bool (!(q && !all))) ∧ Jt w B bS bR bK bW bA b1 b2 bT bG bO R vW u vs n stop all A (q && !all) (k + 1) X' := by
  obtain ⟨vs', st, r, s1, s2, s3, d1, d2, hB, hb⟩ := h
  have hk : k < (beh A n).length := (List.getElem?_eq_some_iff.1 hx).1
  have hbl : (beh A n).length ≤ 2000 := by unfold beh; rw [List.length_drop]; omega
  refine (sn1_any bS bR bK bW bA b1 b2 bT bG bO R vW n stop all hd B vs' (A ++ nines k) (beh A n) k x1 x2 q hq X st r s3 (fun j hj => ⟨(d1 j (.inl hj)).1, (d1 j (.inl hj)).2.1⟩) hx (beh_app0 A _ n (by omega)) (by simp [nines]; omega) (by omega)).mono ?_
  rintro e X' ⟨rfl, vs2, st', r', so, hg, hv⟩
  rw [nines_succ] at r'
  have hnS : ∀ j, ¬ IsBox bS bR bK bW bA b1 b2 bT bG bO j → ¬ Blk R vs' j → ¬ (j = bK ∨ j = bG ∨ j = bO ∨ Blk R vs' j) := by
    rintro j h1 h2 (rfl | rfl | rfl | h)
    · exact h1 (by simp [IsBox])
    · exact h1 (by simp [IsBox])
    · exact h1 (by simp [IsBox])
    · exact h2 h
  have hnew : ∀ j, ¬ Blk R vs' j → j < X.heap.size → ¬ Blk R vs2 j := by
    rintro j h1 h2 (h | h)
    · exact h1 (.inl h)
    · rcases hv with hv | ⟨g, hv, hge⟩
      · exact h1 (.inr (hv ▸ h))
      · rw [hv] at h
        cases h
        omega
  have hdd : vs2.ownBlock = vs.ownBlock ∨ ∀ j, vs.ownBlock = some j → ¬ Blk R vs2 j ∧ ¬ IsBox bS bR bK bW bA b1 b2 bT bG bO j ∧ j < X'.heap.size := by
    rcases d2 with d2 | d2
    · rcases hv with hv | ⟨g, hv, hge⟩
      · exact .inl (hv.trans d2)
      · refine .inr fun j hj => ?_
        have hj' : Blk R vs' j := .inr (d2.trans hj)
        have hlt := r.lt j hj'
        refine ⟨?_, fun hbx => st.not_blk r j hbx hj', Nat.lt_of_lt_of_le hlt hg.size⟩
        rintro (h | h)
        · subst h
          rcases r.2.2.2 with ⟨rfl, _⟩ | ⟨g', cap, cur, rfl, _, hgb, _⟩
          · rw [← d2] at hj
            cases hj
          · rw [← d2] at hj
            cases hj
            have := r.2.1.symm.trans hgb
            simp at this
        · rw [hv] at h
          cases h
          omega
    · refine .inr fun j hj => ?_
      obtain ⟨a, b, c⟩ := d2 j hj
      exact ⟨hnew j a c, b, Nat.lt_of_lt_of_le c hg.size⟩
  refine ⟨rfl, vs2, by push_cast; exact st', r', ?_, sl_grow hg s2 (fun j hj => hnS j (d1 j (.inr hj)).1 (d1 j (.inr hj)).2.1), sl_grow hg s3 (fun j hj => hnS j (d1 j (.inl hj)).1 (d1 j (.inl hj)).2.1), ?_, hdd, Nat.le_trans hB hg.size, hb.trans (hg.below ?_ hb.size)⟩
  · rcases d2 with d2 | d2
    · exact old_sl2 ho r.2.2 d2 so
    · exact sl_grow hg s1 (fun j hj => hnS j (d2 j hj).2.1 (d2 j hj).1)
  · intro j hj
    obtain ⟨a, b, c⟩ := d1 j hj
    exact ⟨a, hnew j b c, Nat.lt_of_lt_of_le c hg.size⟩
  · rintro j (rfl | rfl | rfl | h)
    · exact hbx _ (by simp [IsBox])
    · exact hbx _ (by simp [IsBox])
    · exact hbx _ (by simp [IsBox])
    · exact Nat.le_trans hw (r.ge j h)
end Go.Proofs.Ytigapdfefapdgaa
