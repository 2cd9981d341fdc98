import Derived.Test.YtigapdfefapdgaaTraceS2
namespace Go.Proofs.Ytigapdfefapdgaa
set_option linter.unusedSimpArgs false
open Go.ChangeShapes Go.WideShapes Go.ChangeAt Go.RowKit Go.Pin
theorem loop1 {w : World} {B bS bR bK bW bA b1 b2 bT bG bO R : Nat} {vW u vs : Value} {n stop : Int} {all : Bool} {A : List (Int × Int)} {Y : World} (ho : Y.ownsRow B 37 2 vs A.length (evC A)) (hw : w.heap.size ≤ B) (hbx : ∀ j, IsBox bS bR bK bW bA b1 b2 bT bG bO j → w.heap.size ≤ j) (hd : Ord bS bR bK bW bA b1 b2 bT bG bO)
    {X : World} (h : Jt w B bS bR bK bW bA b1 b2 bT bG bO R vW u vs n stop all A false 0 X) (hr : RecO X (.pointer (some ⟨R, 0, none⟩)) vs A) (hA : A.length ≤ 2000)
    (hs : (all = true ∧ stop = (beh A n).length) ∨ (all = false ∧ 1 ≤ stop ∧ stop < (beh A n).length)) :
    Calls Try.prog 39 #[.func (.func 24) #[] #[.pointer (some ⟨bO, 0, none⟩), .pointer (some ⟨bG, 0, none⟩), .pointer (some ⟨bW, 0, none⟩), .pointer (some ⟨bK, 0, none⟩), .pointer (some ⟨bT, 0, none⟩), .pointer (some ⟨bR, 0, none⟩), .pointer (some ⟨bS, 0, none⟩), .pointer (some ⟨bA, 0, none⟩)], .pointer (some ⟨b1, 0, none⟩), .pointer (some ⟨b2, 0, none⟩)] X fun e W' =>
      e = .returned (.tuple #[]) ∧ ∃ (k : Nat) (ov : Bool), (k : Int) = stop ∧ k ≤ 2000 ∧ Jt w B bS bR bK bW bA b1 b2 bT bG bO R vW u vs n stop all A ov k W' := by
  have hbl : (beh A n).length ≤ 2000 := by unfold beh; rw [List.length_drop]; omega
  have h' := h
  obtain ⟨_, st, _⟩ := h'
  refine (since1_call 24 _ (enters_of Try.func24 (by kernel_rfl) rfl) b1 b2 (.pointer (some ⟨R, 0, none⟩)) vs n A (by omega)
    (fun pre X => Jt w B bS bR bK bW bA b1 b2 bT bG bO R vW u vs n stop all A false pre.length X ∧ (all = false → (pre.length : Int) < stop))
    (fun pre X => Jt w B bS bR bK bW bA b1 b2 bT bG bO R vW u vs n stop all A true pre.length X ∧ (pre.length : Int) = stop ∧ pre.length ≤ 2000) X ?_ ?_ ?_ hr st.c1.cell st.c2.cell ⟨h, fun ha => ?_⟩).mono ?_
  · rintro pre X o ⟨hj, hk⟩
    exact ⟨hj.alloc o, hk⟩
  · rintro pre X ⟨⟨_, _, _, s1, _⟩, _⟩
    exact s1
  · rintro pre ⟨x1, x2⟩ X ⟨hj, hk⟩ hlt hget
    refine (hj.step ho hw hbx hd x1 x2 hget _ rfl hA).mono ?_
    rintro e X' ⟨rfl, hj'⟩
    have hln : (pre ++ [(x1, x2)]).length = pre.length + 1 := by simp
    cases hq : ((pre.length : Int) + 1 == stop) with
    | false =>
      rw [hq] at hj'
      refine .inl ⟨by simp, by rw [hln]; simpa using hj', fun ha => ?_⟩
      have := hk ha
      have hne : (pre.length : Int) + 1 ≠ stop := by simpa using hq
      rw [hln]
      omega
    | true =>
      rw [hq] at hj'
      have he : (pre.length : Int) + 1 = stop := by simpa using hq
      cases ha : all with
      | false =>
        rw [ha] at hj'
        refine .inr ⟨by simp, by rw [hln]; simpa using hj', ?_, ?_⟩
        · rw [hln]; omega
        · rw [hln]; omega
      | true =>
        rw [ha] at hj'
        exact .inl ⟨by simp, by rw [hln]; simpa using hj', fun h => by cases h⟩
  · rcases hs with ⟨h1, _⟩ | ⟨_, h1, _⟩
    · rw [h1] at ha; cases ha
    · simp; omega
  · rintro e W' ⟨rfl, ⟨hj, hk⟩ | ⟨pre, _, hj, hk, hk2⟩⟩
    · rcases hs with ⟨_, h1⟩ | ⟨h1, _, h2⟩
      · exact ⟨rfl, _, _, h1.symm, hbl, hj⟩
      · have := hk h1
        omega
    · exact ⟨rfl, _, _, hk, hk2, hj⟩
theorem loop2 {B b1 b2 bL R : Nat} {vs : Value} {n : Int} {L : List (Int × Int)} {X : World} (r : Rec B X R vs L) (hL : Boxed X bL 3 (.int .i64 0)) (h1 : Boxed X b1 23 (.pointer (some ⟨R, 0, none⟩))) (h2 : Boxed X b2 3 (.int .i64 n)) (hl : L.length ≤ 4000) :
    Calls Try.prog 39 #[.func (.func 26) #[] #[.pointer (some ⟨bL, 0, none⟩)], .pointer (some ⟨b1, 0, none⟩), .pointer (some ⟨b2, 0, none⟩)] X fun e W' => e = .returned (.tuple #[]) ∧ Boxed W' bL 3 (.int .i64 (beh L n).length) ∧ Grow (fun k => k = bL) X W' := by
  have hnb : ∀ k, Blk R vs k → ¬ k = bL := fun k hk e => bnot_blk hL (by decide) r (e ▸ hk)
  refine (since1_call 26 #[.pointer (some ⟨bL, 0, none⟩)] (enters_of Try.func26 (by kernel_rfl) rfl) b1 b2 (.pointer (some ⟨R, 0, none⟩)) vs n L (by omega)
    (fun pre W => Boxed W bL 3 (.int .i64 (pre.length : Nat)) ∧ Grow (fun k => k = bL) X W) (fun _ _ => False) X ?_ ?_ ?_ r.opt h1.cell h2.cell ⟨hL, grow_refl _ _⟩).mono ?_
  · rintro pre W o ⟨ha, hb⟩
    exact ⟨ha.alloc o, grow_alloc hb o⟩
  · rintro pre W ⟨_, hb⟩
    exact (r.grow hb hnb).opt.sl
  · rintro pre ⟨x1, x2⟩ W ⟨ha, hb⟩ hlt _
    refine (sn2_any bL pre.length x1 x2 W (by omega) ha).mono ?_
    rintro e W' ⟨rfl, hc, hg⟩
    refine .inl ⟨by rw [decide_eq_true (by omega)], ?_, hb.trans hg⟩
    rw [List.length_append]
    exact hc
  · rintro e W' ⟨rfl, h | ⟨_, _, h⟩⟩
    · exact ⟨rfl, h⟩
    · exact h.elim
end Go.Proofs.Ytigapdfefapdgaa
