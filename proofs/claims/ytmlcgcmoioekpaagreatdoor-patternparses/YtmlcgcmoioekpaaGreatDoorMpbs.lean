import Derived.Test.YtmlcgcmoioekpaaGreatDoorMpbh
import Derived.Test.YtmlcgcmoioekpaaGreatDoorMpbp
import Derived.Test.YtmlcgcmoioekpaaGreatDoorMpbo
/- what the program's functions are held to, and the laws' walks over that -/
namespace Go.Proofs.YtmlcgcmoioekpaaGreatDoor
set_option linter.unusedSimpArgs false
set_option linter.unusedVariables false
set_option maxRecDepth 100000
open Go.ChangeShapes Go.WideShapes Go.ChangeAt Go.RowKit Go.Pin Go.Pat Go.Deep
theorem prs_isC (t : ByteArray) : IsC (prs t).2 := by
  have hz : IsC 8 := .inr (.inr (.inl rfl))
  unfold prs
  split
  · exact hz
  · split
    · exact hz
    · split
      · exact hz
      · cases bfr (((rws t).1.take (frm (rws t).1 - 1)).drop 1) [] [] with
        | none => exact hz
        | some x =>
          obtain ⟨b0, b1⟩ := x
          simp only
          split
          · exact hz
          · cases mls ((rws t).1.drop (frm (rws t).1)) with
            | none => exact hz
            | some ls =>
              simp only
              split
              · exact chk_isC _
              · exact .inl rfl
set_option maxRecDepth 100000 in
set_option maxHeartbeats 4000000 in
theorem parses_walk {ea : Int → Addr} (t : ByteArray) (W : World) (hE : Errs ea W) (ht : t.size ≤ 140737488355328) (hF : PrsC ea) (hK : KnC ea) :
    Calls Tryz.prog 5 #[.string t] W fun e w' => e = .returned (.bool true) ∧ Below W.heap.size W w' := by
  have CF := hF t W hE ht
  obtain ⟨q, hq⟩ : ∃ q, W.heap.size = q := ⟨_, rfl⟩
  obtain ⟨P, hP⟩ : ∃ P, (prs t).1 = P := ⟨_, rfl⟩
  have hcc := prs_isC t
  obtain ⟨b, hb⟩ : ∃ b, (prs t).2 = b := ⟨_, rfl⟩
  rw [hb] at hcc
  rw [hP, hb, hq] at CF
  have HFA : Hid (∀ Y, Calls Tryz.prog 19 #[.string t] Y fun e w' => ∃ v, e = .returned (.tuple #[v, .int .i64 b]) ∧ RdP w' v P ∧ Below Y.heap.size Y w') := fun Y => (parse_any t Y ht).mono fun e w' k => by
    obtain ⟨k1, v, k2, k3⟩ := k
    rw [hb] at k2
    rw [hP] at k3
    exact ⟨v, k2, k3, k1⟩
  have HE : Hid (Errs ea W) := hE
  have HK : Hid (KnC ea) := hK
  have HWQ : Hid (W.heap.size = q) := hq
  rw [hq]
  clear hF hE hK hP hb
  go_enter Tryz.func5, Tryz.ntmps5
  go_upto_region 2 with (go_at_call 18; refine CF.mono ?_; rintro e w1 ⟨v, rfl, hr, hb⟩; obtain ⟨a0, k0, a1, k1, al, kl, rfl⟩ := hr.sl; have HR1 : Hid (RdP w1 _ P) := hr; have HB1 : Hid (Below q W w1) := hb; clear hr hb CF)
  have hpb := pb_start w1 P.nm (.slice a0 P.b0.length k0) (.slice a1 P.b1.length k1) (.slice al P.ln.length kl)
  obtain ⟨q1, hq1⟩ : ∃ q1, w1.heap.size = q1 := ⟨_, rfl⟩
  obtain ⟨W2, hW2⟩ : ∃ W2, w1.alloc (.cells #[.string P.nm, .slice a0 P.b0.length k0, .slice a1 P.b1.length k1, .slice al P.ln.length kl] 26) = W2 := ⟨_, rfl⟩
  simp only [hq1, hW2] at hpb ⊢
  have HQ1 : Hid (w1.heap.size = q1 ∧ q ≤ q1) := ⟨hq1, by have := HB1.out.size; have := HWQ.out; omega⟩
  have HP2 : Hid (PB q1 w1 P.nm (.slice a0 P.b0.length k0) (.slice a1 P.b1.length k1) (.slice al P.ln.length kl) W2) := hpb
  have CR := HFA.out W2
  obtain ⟨q2, hq2⟩ : ∃ q2, W2.heap.size = q2 := ⟨_, rfl⟩
  rw [hq2] at CR
  clear hpb hW2 hq1
  go_upto_region 3 with (go_at_call 19; refine CR.mono ?_; rintro e w3 ⟨v, rfl, hr, hb⟩; obtain ⟨c0, l0, c1, l1, cl, ll, rfl⟩ := hr.sl; have HR3 : Hid (RdP w3 _ P) := hr; have HP3 : Hid (PB q1 w1 P.nm (.slice a0 P.b0.length k0) (.slice a1 P.b1.length k1) (.slice al P.ln.length kl) w3) := HP2.out.below (by rw [hq2]; exact hb); clear hr hb CR)
  have hpb := pb_start w3 P.nm (.slice c0 P.b0.length l0) (.slice c1 P.b1.length l1) (.slice cl P.ln.length ll)
  obtain ⟨q3, hq3⟩ : ∃ q3, w3.heap.size = q3 := ⟨_, rfl⟩
  obtain ⟨W4, hW4⟩ : ∃ W4, w3.alloc (.cells #[.string P.nm, .slice c0 P.b0.length l0, .slice c1 P.b1.length l1, .slice cl P.ln.length ll] 26) = W4 := ⟨_, rfl⟩
  simp only [hq3, hW4] at hpb ⊢
  have HP4 : Hid (PB q3 w3 P.nm (.slice c0 P.b0.length l0) (.slice c1 P.b1.length l1) (.slice cl P.ln.length ll) W4) := hpb
  have HA4 : Hid (PB q1 w1 P.nm (.slice a0 P.b0.length k0) (.slice a1 P.b1.length k1) (.slice al P.ln.length kl) W4) := HP3.out.below (by rw [hq3]; exact hpb.old)
  have CS := same_true (HR1.out.below (by rw [HQ1.out.1]; exact HA4.out.old)) (HR3.out.below (by rw [hq3]; exact HP4.out.old))
  have x0 := HA4.out.c0
  have x1 := HA4.out.c1
  have x2 := HA4.out.c2
  have x3 := HA4.out.c3
  have y0 := HP4.out.c0
  have y1 := HP4.out.c1
  have y2 := HP4.out.c2
  have y3 := HP4.out.c3
  obtain ⟨q4, hq4⟩ : ∃ q4, W4.heap.size = q4 := ⟨_, rfl⟩
  rw [hq4] at CS
  have HBW : Hid (Below q W W4) := HB1.out.trans (HA4.out.old.mono HQ1.out.2)
  clear hpb hW4 hq3
  have hbb : (b == b) = true := by simp
  have CC := code_any (HE.out.below (by rw [HWQ.out]; exact HBW.out)) b hcc
  go_wp2_with (first
    | (go_at_call 12; refine CC.mono ?_; rintro e wc ⟨rfl, rfl⟩)
    | (go_at_call 20; refine CS.mono ?_; rintro e w5 ⟨rfl, hb⟩; have HB5 : Hid (Below q W w5) := HBW.out.trans (hb.mono (by have := HBW.out.size; have := HWQ.out; omega)); have CKN := HK.out w5 (HE.out.below (by rw [HWQ.out]; exact HB5.out)); clear hb CS x0 x1 x2 x3 y0 y1 y2 y3)
    | (go_at_call 10; refine CKN.mono ?_; rintro e w6 ⟨rfl, hb⟩; have HB6 : Hid (Below q W w6) := HB5.out.trans (hb.mono (by have := HB5.out.size; have := HWQ.out; omega)); clear hb CKN))
  go_ret
  exact ⟨rfl, HB6.out⟩
end Go.Proofs.YtmlcgcmoioekpaaGreatDoor
/- what the program's functions are held to, and the laws' walks over that -/
namespace Go.Proofs.YtmlcgcmoioekpaaGreatDoor
set_option linter.unusedSimpArgs false
set_option linter.unusedVariables false
set_option maxRecDepth 100000
open Go.ChangeShapes Go.WideShapes Go.ChangeAt Go.RowKit Go.Pin Go.Pat Go.Deep
def FndC (ea : Int → Addr) : Prop := ∀ (t : ByteArray) (W : World), Errs ea W → t.size ≤ 140737488355328 →
  Calls Tryz.prog 21 #[.string t] W fun e w' => ∃ v, e = .returned (.tuple #[v, .bool (fndI t).isSome]) ∧ RdP w' v (fndP t) ∧ Below W.heap.size W w'
set_option maxRecDepth 100000 in
set_option maxHeartbeats 4000000 in
theorem finds_walk {ea : Int → Addr} (t : ByteArray) (W : World) (hE : Errs ea W) (ht : t.size ≤ 140737488355328) (hF : FndC ea) (hK : KnC ea) :
    Calls Tryz.prog 6 #[.string t] W fun e w' => e = .returned (.bool true) ∧ Below W.heap.size W w' := by
  have CF := hF t W hE ht
  obtain ⟨q, hq⟩ : ∃ q, W.heap.size = q := ⟨_, rfl⟩
  obtain ⟨P, hP⟩ : ∃ P, fndP t = P := ⟨_, rfl⟩
  obtain ⟨b, hb⟩ : ∃ b, (fndI t).isSome = b := ⟨_, rfl⟩
  rw [hP, hb, hq] at CF
  have HFA : Hid (∀ Y, Calls Tryz.prog 22 #[.string t] Y fun e w' => ∃ v, e = .returned (.tuple #[v, .bool b]) ∧ RdP w' v P ∧ Below Y.heap.size Y w') := fun Y => by
    have := find_any t Y
    rw [hP, hb] at this
    exact this
  have HE : Hid (Errs ea W) := hE
  have HK : Hid (KnC ea) := hK
  have HWQ : Hid (W.heap.size = q) := hq
  rw [hq]
  clear hF hE hK hP hb
  go_enter Tryz.func6, Tryz.ntmps6
  go_upto_region 2 with (go_at_call 21; refine CF.mono ?_; rintro e w1 ⟨v, rfl, hr, hb⟩; obtain ⟨a0, k0, a1, k1, al, kl, rfl⟩ := hr.sl; have HR1 : Hid (RdP w1 _ P) := hr; have HB1 : Hid (Below q W w1) := hb; clear hr hb CF)
  have hpb := pb_start w1 P.nm (.slice a0 P.b0.length k0) (.slice a1 P.b1.length k1) (.slice al P.ln.length kl)
  obtain ⟨q1, hq1⟩ : ∃ q1, w1.heap.size = q1 := ⟨_, rfl⟩
  obtain ⟨W2, hW2⟩ : ∃ W2, w1.alloc (.cells #[.string P.nm, .slice a0 P.b0.length k0, .slice a1 P.b1.length k1, .slice al P.ln.length kl] 26) = W2 := ⟨_, rfl⟩
  simp only [hq1, hW2] at hpb ⊢
  have HQ1 : Hid (w1.heap.size = q1 ∧ q ≤ q1) := ⟨hq1, by have := HB1.out.size; have := HWQ.out; omega⟩
  have HP2 : Hid (PB q1 w1 P.nm (.slice a0 P.b0.length k0) (.slice a1 P.b1.length k1) (.slice al P.ln.length kl) W2) := hpb
  have CR := HFA.out W2
  obtain ⟨q2, hq2⟩ : ∃ q2, W2.heap.size = q2 := ⟨_, rfl⟩
  rw [hq2] at CR
  clear hpb hW2 hq1
  go_upto_region 3 with (go_at_call 22; refine CR.mono ?_; rintro e w3 ⟨v, rfl, hr, hb⟩; obtain ⟨c0, l0, c1, l1, cl, ll, rfl⟩ := hr.sl; have HR3 : Hid (RdP w3 _ P) := hr; have HP3 : Hid (PB q1 w1 P.nm (.slice a0 P.b0.length k0) (.slice a1 P.b1.length k1) (.slice al P.ln.length kl) w3) := HP2.out.below (by rw [hq2]; exact hb); clear hr hb CR)
  have hpb := pb_start w3 P.nm (.slice c0 P.b0.length l0) (.slice c1 P.b1.length l1) (.slice cl P.ln.length ll)
  obtain ⟨q3, hq3⟩ : ∃ q3, w3.heap.size = q3 := ⟨_, rfl⟩
  obtain ⟨W4, hW4⟩ : ∃ W4, w3.alloc (.cells #[.string P.nm, .slice c0 P.b0.length l0, .slice c1 P.b1.length l1, .slice cl P.ln.length ll] 26) = W4 := ⟨_, rfl⟩
  simp only [hq3, hW4] at hpb ⊢
  have HP4 : Hid (PB q3 w3 P.nm (.slice c0 P.b0.length l0) (.slice c1 P.b1.length l1) (.slice cl P.ln.length ll) W4) := hpb
  have HA4 : Hid (PB q1 w1 P.nm (.slice a0 P.b0.length k0) (.slice a1 P.b1.length k1) (.slice al P.ln.length kl) W4) := HP3.out.below (by rw [hq3]; exact hpb.old)
  have CS := same_true (HR1.out.below (by rw [HQ1.out.1]; exact HA4.out.old)) (HR3.out.below (by rw [hq3]; exact HP4.out.old))
  have x0 := HA4.out.c0
  have x1 := HA4.out.c1
  have x2 := HA4.out.c2
  have x3 := HA4.out.c3
  have y0 := HP4.out.c0
  have y1 := HP4.out.c1
  have y2 := HP4.out.c2
  have y3 := HP4.out.c3
  obtain ⟨q4, hq4⟩ : ∃ q4, W4.heap.size = q4 := ⟨_, rfl⟩
  rw [hq4] at CS
  have HBW : Hid (Below q W W4) := HB1.out.trans (HA4.out.old.mono HQ1.out.2)
  clear hpb hW4 hq3
  have hbb : (b == b) = true := by simp
  go_wp2_with (first
    | (go_at_call 20; refine CS.mono ?_; rintro e w5 ⟨rfl, hb⟩; have HB5 : Hid (Below q W w5) := HBW.out.trans (hb.mono (by have := HBW.out.size; have := HWQ.out; omega)); have CKN := HK.out w5 (HE.out.below (by rw [HWQ.out]; exact HB5.out)); clear hb CS x0 x1 x2 x3 y0 y1 y2 y3)
    | (go_at_call 10; refine CKN.mono ?_; rintro e w6 ⟨rfl, hb⟩; have HB6 : Hid (Below q W w6) := HB5.out.trans (hb.mono (by have := HB5.out.size; have := HWQ.out; omega)); clear hb CKN))
  go_ret
  exact ⟨rfl, HB6.out⟩
end Go.Proofs.YtmlcgcmoioekpaaGreatDoor
namespace Go.Proofs.YtmlcgcmoioekpaaGreatDoor
set_option linter.unusedSimpArgs false
set_option linter.unusedVariables false
open Go.ChangeShapes Go.WideShapes Go.ChangeAt Go.RowKit Go.Pin Go.Pat Go.Deep
theorem pfind_any {ea : Int → Addr} : FndC ea := fun t W hE ht => (find_any' t W hE).mono fun e w' ⟨hb, v0, v1, vl, he, hf⟩ => ⟨_, he, hf.rd, hb⟩
end Go.Proofs.YtmlcgcmoioekpaaGreatDoor
