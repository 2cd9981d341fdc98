import Derived.Test.YtdakhiafagambaaDoorFrG
import Derived.Test.YtdakhiafagambaaDoorFrO
/- stage 20: script, long; a nil Reader -/
namespace Go.Proofs.YtdakhiafagambaaDoor
set_option linter.unusedSimpArgs false
set_option linter.unusedVariables false
open Go.ChangeShapes Go.WideShapes Go.ChangeAt Go.RowKit Go.Pin
def tot (L : List (List Int)) : Nat := (L.map List.length).sum
theorem tot_snoc (L : List (List Int)) {i : Nat} (h : i < L.length) : tot (L.take (i + 1)) = tot (L.take i) + (L.getD i []).length := by
  unfold tot
  rw [List.take_add_one, List.getElem?_eq_getElem h, List.map_append, List.sum_append]
  simp [List.getD, h]
def dat (L : List Stp) : List (List Int) := L.map (·.2)
theorem dat_len (L : List Stp) : (dat L).length = L.length := by simp [dat]
theorem dat_at (L : List Stp) (i : Nat) : (dat L).getD i [] = (L.getD i (0, [])).2 := by
  simp only [dat, List.getD_eq_getElem?_getD, List.getElem?_map]
  cases L[i]? <;> rfl
/-- what script and long answer: not too much -/
def Few (n : Nat) (D : List (List Int)) : Prop := n ≤ 400 ∧ tot D ≤ 262144
def FwP (n : Nat) (D : List (List Int)) (W : World) (e : Ending) (w' : World) : Prop := ∃ b, e = .returned (.bool b) ∧ (b = false → Few n D) ∧ w' = W
theorem wrapN {a b : Nat} (h : a ≤ 262144) (hb : b ≤ 140737488355328) : wrap64 ((a : Int) + (b : Int)) = ((a + b : Nat) : Int) ∧ IntKind.i64.wrap ((a : Int) + (b : Int)) = ((a + b : Nat) : Int) := by
  rw [IntWalk.wrap64_in _ ⟨by omega, by omega⟩, IntWalk.i64_in _ ⟨by omega, by omega⟩]
  omega
set_option maxRecDepth 100000 in
set_option maxHeartbeats 4000000 in
theorem script_any (v : Value) (L : List Stp) (W : World) (hR : Scr W v L) :
    Calls Tryd.prog 16 #[v] W (FwP L.length (dat L) W) := by
  obtain ⟨a, cap, rfl, -, hm, hat⟩ := hR
  obtain ⟨n, hn⟩ : ∃ n, L.length = n := ⟨_, rfl⟩
  rw [hn]
  rw [hn] at hm hat
  have HAT : Hid _ := hat
  have HN : Hid (n ≤ 140737488355328 ∧ L.length = n) := ⟨hm, hn⟩
  clear hat hm hn
  by_cases h4 : 400 < n
  · have b1 : (n : Int) > 400 := by omega
    have b2 : (400 : Int) < (n : Int) := by omega
    clear h4
    go_enter Tryd.func16, Tryd.ntmps16
    go_wp2
    go_ret
    exact ⟨true, rfl, (fun h => nomatch h), rfl⟩
  have b1 : ¬ (n : Int) > 400 := by omega
  have b2 : ¬ (400 : Int) < (n : Int) := by omega
  have H4 : Hid (n ≤ 400) := by show n ≤ 400; omega
  clear h4
  go_enter Tryd.func16, Tryd.ntmps16
  go_wp2
  go_loopw [3, 4] (fun v3 v4 wr => ∃ i : Nat, i ≤ n ∧ v4 = .int .i64 i ∧ v3 = .int .i64 ((tot ((dat L).take i) : Nat) : Int) ∧ tot ((dat L).take i) ≤ 262144 ∧ wr = W) (fun _ v _ => n - (intOf v).toNat)
  case atStart => exact ⟨0, Nat.zero_le _, rfl, rfl, Nat.zero_le _, rfl⟩
  case round =>
    obtain ⟨i, hi, rfl, rfl, ht, rfl⟩ := hrel
    by_cases hlt : i < n
    · have c1 : (i : Int) < (n : Int) := by omega
      have c0 : (0 : Int) ≤ (i : Int) := by omega
      obtain ⟨b, o, u, rfl, -, x1, hr⟩ := HAT.out i hlt
      obtain ⟨a5, k5, rfl, -, hl5, -⟩ := hr.1
      have hsn := tot_snoc (dat L) (i := i) (by rw [dat_len, HN.out.2]; exact hlt)
      rw [dat_at] at hsn
      obtain ⟨m, hm⟩ : ∃ m, (L.getD i (0, [])).2.length = m := ⟨_, rfl⟩
      obtain ⟨t, htt⟩ : ∃ t, tot ((dat L).take i) = t := ⟨_, rfl⟩
      rw [hm] at x1 hl5 hsn
      rw [htt] at ht hsn ⊢
      obtain ⟨w1, w2⟩ := wrapN ht hl5
      have HS : Hid (tot ((dat L).take (i + 1)) = t + m ∧ i < n) := ⟨hsn, hlt⟩
      have e : (t : Int) + (m : Int) = ((t + m : Nat) : Int) := by omega
      rw [e] at w1 w2
      obtain ⟨s, hs⟩ : ∃ s, t + m = s := ⟨_, rfl⟩
      rw [hs] at HS w1 w2 e
      clear hsn hm htt hr hl5 ht hlt hi hs
      by_cases hbig : 262144 < s
      · have b3 : (s : Int) > 262144 := by omega
        have b4 : (262144 : Int) < (s : Int) := by omega
        clear hbig
        go_wp2
        go_ret
        exact ⟨true, rfl, (fun h => nomatch h), rfl⟩
      · have b3 : ¬ (s : Int) > 262144 := by omega
        have b4 : ¬ (262144 : Int) < (s : Int) := by omega
        have HB : Hid (s ≤ 262144) := by show s ≤ 262144; omega
        clear hbig
        go_wp2
        exact ⟨⟨i + 1, HS.out.2, congrArg (Value.int .i64) (Int.natCast_succ i).symm, by rw [HS.out.1], by rw [HS.out.1]; exact HB.out, trivial⟩, by have := HS.out.2; show n - ((i : Int) + 1).toNat < n - ((i : Int)).toNat; omega⟩
    · have c1 : ¬ (i : Int) < (n : Int) := by omega
      obtain rfl : i = n := by omega
      have HT : Hid (tot ((dat L).take i) ≤ 262144) := ht
      clear ht hi hlt
      go_wp2
      go_ret
      refine ⟨false, rfl, fun _ => ⟨H4.out, ?_⟩, rfl⟩
      have := HT.out
      rw [List.take_of_length_le (by rw [dat_len, HN.out.2]; exact Nat.le_refl _)] at this
      exact this
set_option maxRecDepth 100000 in
set_option maxHeartbeats 4000000 in
theorem nothing_walk {ea : Int → Addr} {rep : Nat → List Int → List Nat → World → Prop} (hP : PutC) (hR : RdrC rep) (v : Value) (L : List Stp) (W : World) (hE : Errs ea W) (hS : Scr W v L) :
    Calls Tryd.prog 6 #[v] W fun e w' => e = .returned (.bool true) ∧ Below W.heap.size W w' := by
  have CS := script_any v L W hS
  have hSB := fun Y (hY : Below W.heap.size W Y) => hS.below hY
  obtain ⟨a, cap, rfl, -, hm, -⟩ := hS
  obtain ⟨q, hq⟩ : ∃ q, W.heap.size = q := ⟨_, rfl⟩
  obtain ⟨n, hn⟩ : ∃ n, L.length = n := ⟨_, rfl⟩
  simp only [hq, hn] at CS hSB hm ⊢
  have HE : Hid (∀ y, Below q W y → Errs ea y ∧ q ≤ y.heap.size) := fun y hy => ⟨hE.below (by rw [hq]; exact hy), by have := hy.size; omega⟩
  have HSB : Hid (∀ Y, Below q W Y → Scr Y (.slice a n cap) L) := hSB
  have HN : Hid (n ≤ 140737488355328 ∧ L.length = n) := ⟨hm, hn⟩
  have HR : Hid (RdrC rep) := hR
  have HP : Hid PutC := hP
  unfold FwP at CS
  clear hE hSB hm hn hR hP hq
  go_enter Tryd.func6, Tryd.ntmps6
  go_upto_if 8 with (go_at_call 16; refine CS.mono ?_; rintro e w1 ⟨b, rfl, hf, rfl⟩; clear CS hf; rcases b with _ | _)
  rotate_left
  · go_wp2
    go_ret
    exact ⟨rfl, Below.refl _ _⟩
  go_wp2
  go_loopw [4] (fun v4 wr => ∃ i : Nat, i ≤ n ∧ v4 = .int .i64 i ∧ Below q w1 wr) (fun v _ => n - (intOf v).toNat)
  case atStart => exact ⟨0, Nat.zero_le _, rfl, Below.refl _ _⟩
  case round =>
    obtain ⟨i, hi, rfl, hb⟩ := hrel
    have HB : Hid (Below q w1 wr) := hb
    by_cases hlt : i < n
    · have c1 : (i : Int) < (n : Int) := by omega
      have c0 : (0 : Int) ≤ (i : Int) := by omega
      obtain ⟨a', c', e, -, -, hat⟩ := HSB.out wr hb
      injection e with e1 e2 e3
      subst e1
      obtain ⟨b, o, u, rfl, -, x1, hr⟩ := hat i (by rw [HN.out.2]; exact hlt)
      have C1 := HR.out.feed0 wr u _ hr.1
      have HLT : Hid (i < n) := hlt
      clear hat hr hi hlt hb e2 e3
      go_upto_region 8 with (go_at_call 19; refine C1.mono ?_; rintro e w2 ⟨rfl, hb2⟩; have H2 : Hid (Below q w1 w2) := sub_le HB.out hb2 (HE.out _ HB.out).2; clear hb2 C1)
      have C2 := HR.out.next0 w2
      go_upto_region 9 with (go_at_call 20; refine C2.mono ?_; rintro e w3 ⟨rfl, hb3⟩; have H3 : Hid (Below q w1 w3) := sub_le H2.out hb3 (HE.out _ H2.out).2; clear hb3 C2)
      have C3 := HR.out.held0 w3
      go_wp2_with (go_at_call 21; refine C3.mono ?_; rintro e w4 ⟨rfl, hb4⟩; have H4 : Hid (Below q w1 w4) := sub_le H3.out hb4 (HE.out _ H3.out).2; clear hb4 C3)
      exact ⟨⟨i + 1, HLT.out, congrArg (Value.int .i64) (wrapS HLT.out HN.out.1), H4.out⟩, measS HLT.out HN.out.1⟩
    · have c1 : ¬ (i : Int) < (n : Int) := by omega
      have C3 := HR.out.held0 wr
      clear hi hlt hb
      go_wp2_with (first
        | (go_at_call 21; refine C3.mono ?_; rintro e w4 ⟨rfl, hb4⟩; have H4 : Hid (Below q w1 w4) := sub_le HB.out hb4 (HE.out _ HB.out).2; have CK := known_any HP.out HR.out w4 (HE.out _ H4.out).1; clear hb4 C3)
        | (go_at_call 15; refine CK.mono ?_; rintro e w5 ⟨rfl, hb5⟩; have H5 : Hid (Below q w1 w5) := sub_le H4.out hb5 (HE.out _ H4.out).2; clear hb5 CK))
      go_ret
      exact ⟨rfl, H5.out⟩
end Go.Proofs.YtdakhiafagambaaDoor
