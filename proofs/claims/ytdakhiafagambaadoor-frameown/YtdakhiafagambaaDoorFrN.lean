import Derived.Test.YtdakhiafagambaaDoorFrM
/- stage 20: long; frames one behind the other -/
namespace Go.Proofs.YtdakhiafagambaaDoor
set_option linter.unusedSimpArgs false
set_option linter.unusedVariables false
open Go.ChangeShapes Go.WideShapes Go.ChangeAt Go.RowKit Go.Pin
set_option maxRecDepth 100000 in
set_option maxHeartbeats 4000000 in
theorem long_any (v : Value) (L : List (List Int)) (W : World) (hR : PRd W v L) :
    Calls Tryd.prog 22 #[v] W (FwP L.length L W) := by
  obtain ⟨a, cap, rfl, -, hm, hat⟩ := hR
  obtain ⟨n, hn⟩ : ∃ n, L.length = n := ⟨_, rfl⟩
  rw [hn]
  rw [hn] at hm hat
  have HAT : Hid _ := hat
  have HN : Hid (n ≤ 140737488355328 ∧ L.length = n) := ⟨hm, hn⟩
  clear hat hm hn
  by_cases h4 : 400 < n
  · have b1 : (n : Int) > 400 := by omega
    have b2 : (400 : Int) < (n : Int) := by omega
    clear h4
    go_enter Tryd.func22, Tryd.ntmps22
    go_wp2
    go_ret
    exact ⟨true, rfl, (fun h => nomatch h), rfl⟩
  have b1 : ¬ (n : Int) > 400 := by omega
  have b2 : ¬ (400 : Int) < (n : Int) := by omega
  have H4 : Hid (n ≤ 400) := by show n ≤ 400; omega
  clear h4
  go_enter Tryd.func22, Tryd.ntmps22
  go_wp2
  go_loopw [3, 4] (fun v3 v4 wr => ∃ i : Nat, i ≤ n ∧ v4 = .int .i64 i ∧ v3 = .int .i64 ((tot (L.take i) : Nat) : Int) ∧ tot (L.take i) ≤ 262144 ∧ wr = W) (fun _ v _ => n - (intOf v).toNat)
  case atStart => exact ⟨0, Nat.zero_le _, rfl, rfl, Nat.zero_le _, rfl⟩
  case round =>
    obtain ⟨i, hi, rfl, rfl, ht, rfl⟩ := hrel
    by_cases hlt : i < n
    · have c1 : (i : Int) < (n : Int) := by omega
      have c0 : (0 : Int) ≤ (i : Int) := by omega
      obtain ⟨b, o, u, rfl, x1, hr⟩ := HAT.out i hlt
      obtain ⟨a5, k5, rfl, -, hl5, -⟩ := hr.1
      have hsn := tot_snoc L (i := i) (by rw [HN.out.2]; exact hlt)
      obtain ⟨m, hm⟩ : ∃ m, (L.getD i []).length = m := ⟨_, rfl⟩
      obtain ⟨t, htt⟩ : ∃ t, tot (L.take i) = t := ⟨_, rfl⟩
      rw [hm] at x1 hl5 hsn
      rw [htt] at ht hsn ⊢
      obtain ⟨w1, w2⟩ := wrapN ht hl5
      have HS : Hid (tot (L.take (i + 1)) = t + m ∧ i < n) := ⟨hsn, hlt⟩
      have e : (t : Int) + (m : Int) = ((t + m : Nat) : Int) := by omega
      rw [e] at w1 w2
      obtain ⟨s, hs⟩ : ∃ s, t + m = s := ⟨_, rfl⟩
      rw [hs] at HS w1 w2 e
      clear hsn hm htt hr hl5 ht hlt hi hs
      by_cases hbig : 262144 < s
      · have b3 : (s : Int) > 262144 := by omega
        have b4 : (262144 : Int) < (s : Int) := by omega
        clear hbig
        go_wp2
        go_ret
        exact ⟨true, rfl, (fun h => nomatch h), rfl⟩
      · have b3 : ¬ (s : Int) > 262144 := by omega
        have b4 : ¬ (262144 : Int) < (s : Int) := by omega
        have HB : Hid (s ≤ 262144) := by show s ≤ 262144; omega
        clear hbig
        go_wp2
        exact ⟨⟨i + 1, HS.out.2, congrArg (Value.int .i64) (Int.natCast_succ i).symm, by rw [HS.out.1], by rw [HS.out.1]; exact HB.out, trivial⟩, by have := HS.out.2; show n - ((i : Int) + 1).toNat < n - ((i : Int)).toNat; omega⟩
    · have c1 : ¬ (i : Int) < (n : Int) := by omega
      obtain rfl : i = n := by omega
      have HT : Hid (tot (L.take i) ≤ 262144) := ht
      clear ht hi hlt
      go_wp2
      go_ret
      refine ⟨false, rfl, fun _ => ⟨H4.out, ?_⟩, rfl⟩
      have := HT.out
      rw [List.take_of_length_le (by rw [HN.out.2]; exact Nat.le_refl _)] at this
      exact this
/-- what is kept begins with a frame, or with the beginning of one -/
theorem nxt_pre {M R : List Int} (hM : M.length ≤ 65535) (k : Nat) : nxt ((frm M ++ R).take k) = if k < M.length + 2 then none else some (M, R.take (k - (M.length + 2))) := by
  have hfl := frm_len M
  have hd : ∀ k, 2 ≤ k → hdn ((frm M ++ R).take k) = M.length := fun k hk => by
    have e : (frm M ++ R).take k = ((M.length / 256 : Nat) : Int) :: ((M.length % 256 : Nat) : Int) :: (M ++ R).take (k - 2) := by
      obtain ⟨k', rfl⟩ : ∃ k', k = k' + 2 := ⟨k - 2, by omega⟩
      simp [frm]
    rw [e]
    unfold hdn
    simp only [List.getD_cons_zero, List.getD_cons_succ]
    omega
  by_cases hk : k < M.length + 2
  · rw [if_pos hk]
    unfold nxt
    have hl : ((frm M ++ R).take k).length = k := by rw [List.length_take, List.length_append]; omega
    rw [hl]
    by_cases h2 : k < 2
    · rw [if_pos (.inl h2)]
    · rw [if_pos (.inr (by rw [hd k (by omega)]; omega))]
  · rw [if_neg hk]
    by_cases hb : k ≤ (frm M ++ R).length
    · unfold nxt
      have hl : ((frm M ++ R).take k).length = k := by rw [List.length_take]; omega
      rw [hl, hd k (by omega), if_neg (by omega)]
      have e : (frm M ++ R).take k = frm M ++ R.take (k - (M.length + 2)) := by
        rw [List.take_append, hfl, List.take_of_length_le (by omega)]
      rw [e]
      congr 2
      · unfold frm
        rw [List.append_assoc, List.drop_append]
        simp
      · rw [show 2 + M.length = (frm M).length by omega, List.drop_left]
    · have e : (frm M ++ R).take k = frm M ++ R := List.take_of_length_le (by omega)
      have e2 : R.take (k - (M.length + 2)) = R := List.take_of_length_le (by rw [List.length_append] at hb; omega)
      have hd2 : hdn (frm M ++ R) = M.length := by rw [← e]; exact hd k (by omega)
      rw [e, e2]
      unfold nxt
      rw [hd2, if_neg (by rw [List.length_append]; omega)]
      congr 2
      · unfold frm
        rw [List.append_assoc, List.drop_append]
        simp
      · rw [show 2 + M.length = (frm M).length by omega, List.drop_left]
/-- frames, one behind the other -/
def lin (Ms : List (List Int)) : List Int := Ms.flatMap frm
theorem lin_snoc (Ms : List (List Int)) {i : Nat} (h : i < Ms.length) : lin (Ms.take (i + 1)) = lin (Ms.take i) ++ frm (Ms.getD i []) := by
  unfold lin
  rw [List.take_add_one, List.getElem?_eq_getElem h, List.flatMap_append]
  simp [List.getD, h]
theorem lin_len (Ms : List (List Int)) : (lin Ms).length = tot Ms + 2 * Ms.length := by
  induction Ms with
  | nil => rfl
  | cons M r ih =>
    simp only [lin, tot, List.flatMap_cons, List.length_append, frm_len, List.map_cons, List.sum_cons, List.length_cons] at ih ⊢
    omega
theorem lin_drop (Ms : List (List Int)) {i : Nat} (h : i < Ms.length) : (lin Ms).drop (lin (Ms.take i)).length = frm (Ms.getD i []) ++ lin (Ms.drop (i + 1)) := by
  have e : lin Ms = lin (Ms.take i) ++ (frm (Ms.getD i []) ++ lin (Ms.drop (i + 1))) := by
    have h1 : Ms = Ms.take i ++ (Ms.getD i [] :: Ms.drop (i + 1)) := by
      conv => lhs; rw [← List.take_append_drop i Ms]
      rw [List.drop_eq_getElem_cons h]
      simp [List.getD, h]
    conv => lhs; rw [h1]
    simp [lin]
  rw [e, List.drop_left]
/-- what a Reader that was fed 'at' bytes of the line and has told t messages says next -/
theorem nxt_lin (Ms : List (List Int)) (hM : ∀ M ∈ Ms, M.length ≤ 65535) {t at_ : Nat} (ht : t ≤ Ms.length) (ha : at_ ≤ (lin Ms).length) (hg : (lin (Ms.take t)).length ≤ at_) :
    nxt (((lin Ms).take at_).drop (lin (Ms.take t)).length) = if t < Ms.length ∧ (lin (Ms.take (t + 1))).length ≤ at_ then some (Ms.getD t [], ((lin Ms).take at_).drop (lin (Ms.take (t + 1))).length) else none := by
  by_cases hlt : t < Ms.length
  · have hd := lin_drop Ms hlt
    have hs := lin_snoc Ms hlt
    have hl : (lin (Ms.take (t + 1))).length = (lin (Ms.take t)).length + ((Ms.getD t []).length + 2) := by rw [hs, List.length_append, frm_len]
    have hmm : (Ms.getD t []).length ≤ 65535 := hM _ (by rw [List.getD_eq_getElem?_getD, List.getElem?_eq_getElem hlt]; exact List.getElem_mem _)
    rw [List.drop_take, hd, nxt_pre hmm]
    by_cases hk : (lin (Ms.take (t + 1))).length ≤ at_
    · rw [if_neg (by omega), if_pos ⟨hlt, hk⟩]
      congr 2
      have hdd : (lin Ms).drop ((lin (Ms.take t)).length + ((Ms.getD t []).length + 2)) = lin (Ms.drop (t + 1)) := by
        rw [← List.drop_drop, hd, show (Ms.getD t []).length + 2 = (frm (Ms.getD t [])).length from (frm_len _).symm, List.drop_left]
      rw [List.drop_take, hl, hdd]
      congr 1
      omega
    · rw [if_pos (by omega), if_neg (fun h => hk h.2)]
  · have : t = Ms.length := by omega
    subst this
    rw [if_neg (fun h => hlt h.1), List.take_length]
    rw [List.drop_eq_nil_of_le (by rw [List.length_take]; omega)]
    rfl
end Go.Proofs.YtdakhiafagambaaDoor
