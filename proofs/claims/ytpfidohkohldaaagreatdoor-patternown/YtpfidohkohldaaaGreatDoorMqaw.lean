import Derived.Deep.Upon
import Derived.Test.YtpfidohkohldaaaGreatDoorMqas
import Derived.Test.YtpfidohkohldaaaGreatDoorMqae
import Derived.Test.YtpfidohkohldaaaGreatDoorMqam
import Derived.Test.YtpfidohkohldaaaGreatDoorMqat
import Derived.Test.YtpfidohkohldaaaGreatDoorMqau
namespace Go.Proofs.YtpfidohkohldaaaGreatDoor
set_option linter.unusedSimpArgs false
set_option linter.unusedVariables false
set_option maxRecDepth 100000
open Go.ChangeShapes Go.WideShapes Go.ChangeAt Go.RowKit Go.Pin Go.Pat Go.Deep
/-- the number of a psk word of at most that number -/
def nbr (s : ByteArray) (m : Nat) : Option Nat := if 0 ≤ nmb s ∧ nmb s ≤ m then some (nmb s).toNat else none
theorem dgN_up (s : ByteArray) : ∀ (k i n N : Nat), dgN s i = some n → dgN s (i + k) = some N → n ≤ N
  | 0, i, n, N, h, h2 => by rw [Nat.add_zero, h] at h2; injection h2 with h2; omega
  | k + 1, i, n, N, h, h2 => by
    rw [← Nat.add_assoc] at h2
    unfold dgN at h2
    cases e : dgN s (i + k) with
    | none => rw [e] at h2; cases h2
    | some m =>
      rw [e] at h2
      simp only at h2
      split at h2
      · cases h2
      · injection h2 with h2
        have := dgN_up s k i n m h e
        omega
theorem dgN_big (s : ByteArray) (h48 : byt s 3 ≠ 48) : ∀ (i n : Nat), dgN s (i + 1) = some n → 10 ^ i ≤ n
  | 0, n, h => by
    simp only [dgN, Nat.add_zero, Nat.zero_add] at h
    split at h
    · cases h
    · injection h with h
      rename_i hh
      simp only [Nat.pow_zero]
      omega
  | i + 1, n, h => by
    unfold dgN at h
    cases e : dgN s (i + 1) with
    | none => rw [e] at h; cases h
    | some m =>
      rw [e] at h
      simp only at h
      split at h
      · cases h
      · injection h with h
        have := dgN_big s h48 i m e
        rw [Nat.pow_succ]
        omega
theorem byt_gt (s : ByteArray) (i : Nat) (h : i < s.size) : byt s i = s[i].toNat := by
  unfold byt
  have : i < s.data.toList.length := by rw [Array.length_toList]; exact h
  rw [List.getD_eq_getElem?_getD, List.getElem?_eq_getElem this]
  rfl
theorem one_byte (D : ByteArray) (h : 0 < D.size) : (D.toList == [48]) = decide (D[0].toNat = 48 ∧ D.size = 1) := by
  obtain ⟨⟨l⟩⟩ := D
  rw [Go.ByteArray.toList_eq]
  match l, h with
  | [x], _ =>
    rw [Bool.eq_iff_iff, beq_iff_eq, decide_eq_true_iff]
    show [x] = [48] ↔ x.toNat = 48 ∧ 1 = 1
    constructor
    · intro e; injection e with e; rw [e]; exact ⟨rfl, rfl⟩
    · rintro ⟨e, _⟩; rw [show x = 48 from UInt8.toNat_inj.1 e]
  | x :: y :: r, _ =>
    rw [Bool.eq_iff_iff, beq_iff_eq, decide_eq_true_iff]
    constructor
    · intro e; simp at e
    · rintro ⟨_, e⟩; simp [ByteArray.size] at e
theorem psk_pre (s : ByteArray) : Lib.hasPrefix s.data.toList [112, 115, 107] = decide (s.extract 0 3 = pskW) := by
  rw [Bool.eq_iff_iff, decide_eq_true_iff]
  unfold Lib.hasPrefix
  rw [List.isPrefixOf_iff_prefix, List.prefix_iff_eq_take]
  show [112, 115, 107] = (toL s).take 3 ↔ _
  constructor
  · intro h
    refine toL_inj ?_
    rw [toL_ext, List.drop_zero, ← h]
    rfl
  · intro h
    have := congrArg toL h
    rw [toL_ext, List.drop_zero] at this
    exact this.symm
theorem nbr_no {s : ByteArray} {m n i : Nat} (hN : nmb s = if n + 3 < 4 ∨ 6 < n + 3 then -1 else if byt s 3 = 48 ∧ 4 < n + 3 then -1 else match dgN s n with | none => -1 | some n => (n : Int)) (hi : i ≤ n) (h : dgN s i = none) : nbr s m = none := by
  have h2 := dgN_mono s (n - i) i h
  rw [show i + (n - i) = n by omega] at h2
  have : nmb s = -1 := by rw [hN, h2]; split; rfl; split <;> rfl
  unfold nbr; rw [this]; simp
theorem nbr_big {s : ByteArray} {m n i k : Nat} (hN : nmb s = if n + 3 < 4 ∨ 6 < n + 3 then -1 else if byt s 3 = 48 ∧ 4 < n + 3 then -1 else match dgN s n with | none => -1 | some n => (n : Int)) (hi : i ≤ n) (h : dgN s i = some k) (hk : m < k) : nbr s m = none := by
  cases h2 : dgN s n with
  | none => exact nbr_no hN (Nat.le_refl _) h2
  | some N =>
    have h3 := dgN_up s (n - i) i k N h (by rw [show i + (n - i) = n by omega]; exact h2)
    rw [h2] at hN
    unfold nbr
    refine if_neg fun ⟨q1, q2⟩ => ?_
    rw [hN] at q1 q2
    split at q1
    · omega
    · split at q1
      · omega
      · rename_i a1 a2
        rw [if_neg a1, if_neg a2] at q2
        simp only at q2
        omega
theorem nbr_yes {s : ByteArray} {m n k : Nat} (hN : nmb s = if n + 3 < 4 ∨ 6 < n + 3 then -1 else if byt s 3 = 48 ∧ 4 < n + 3 then -1 else match dgN s n with | none => -1 | some n => (n : Int)) (hm : m ≤ 24) (hn : 0 < n) (hb : byt s 3 ≠ 48 ∨ n = 1) (h : dgN s n = some k) (hk : k ≤ m) : nbr s m = some k := by
  have h3 : n ≤ 3 := by
    rcases hb with hb | hb
    · refine Nat.le_of_not_lt fun h4 => ?_
      have := dgN_big s hb (n - 1) k (by rw [show n - 1 + 1 = n by omega]; exact h)
      have h5 : 10 ^ 3 ≤ 10 ^ (n - 1) := Nat.pow_le_pow_right (by omega) (by omega)
      omega
    · omega
  have : nmb s = k := by rw [hN, if_neg (by omega), if_neg (by omega), h]
  unfold nbr
  rw [this]
  rw [if_pos ⟨by omega, by omega⟩]
  simp
set_option maxHeartbeats 8000000 in
theorem numberOf_any (s : ByteArray) (m : Nat) (hm : m ≤ 24) (hs : s.size ≤ 140737488355328) (w : World) :
    Calls Tryz.prog 55 #[.string s, .int .i64 m] w fun e w' => e = .returned (.tuple #[.int .i64 ((nbr s m).getD 0 : Nat), .bool (nbr s m).isSome]) ∧ w' = w := by
  have CC := Tryz.strings_CutPrefix s ⟨#[112, 115, 107]⟩ w
  have hpp : Lib.hasPrefix s.data.toList [112, 115, 107] = decide (s.extract 0 3 = pskW) := psk_pre s
  simp only [Lib.trimPrefix, hpp, show (⟨#[112, 115, 107]⟩ : ByteArray).data.toList = [112, 115, 107] from rfl] at CC
  have hN : nmb s = if s.size < 4 ∨ 6 < s.size then -1 else if s.extract 0 3 ≠ pskW then -1 else if byt s 3 = 48 ∧ 4 < s.size then -1 else match dgN s (s.size - 3) with | none => -1 | some n => (n : Int) := rfl
  by_cases hp : s.extract 0 3 = pskW
  case neg =>
    have HN : Hid (nbr s m = none) := by
      show nbr s m = none
      have : nmb s = -1 := by rw [hN]; split <;> simp [hp]
      unfold nbr; rw [this]; simp
    rw [decide_eq_false hp] at CC
    simp only [Bool.false_eq_true, if_false] at CC
    clear hN hp hpp
    go_enter Tryz.func55, Tryz.ntmps55
    go_wp2_with (go_at_call 66; refine CC.mono ?_; rintro e w' ⟨rfl, rfl⟩)
    go_ret2
    exact ⟨by rw [HN.out]; rfl, rfl⟩
  rw [decide_eq_true hp] at CC
  simp only [if_true] at CC
  simp only [ne_eq, hp, not_true, if_false] at hN
  obtain ⟨D, hD⟩ : ∃ D : ByteArray, D = ⟨(List.drop ([112, 115, 107] : List UInt8).length s.data.toList).toArray⟩ := ⟨_, rfl⟩
  rw [← hD] at CC
  have hs3 : 3 ≤ s.size := by
    have := congrArg (fun x => (toL x).length) hp
    simp only [toL_ext, List.length_drop, List.length_take, toL_len, show toL pskW = [112, 115, 107] from rfl, List.length_cons, List.length_nil] at this
    omega
  have hDl : D.toList = (toL s).drop 3 := by rw [hD, Go.ByteArray.toList_eq]; rfl
  have hz : D.size = s.size - 3 := by rw [bsize_length, hDl, List.length_drop, toL_len]
  have hat : ∀ i (h : i < D.size), D[i].toNat = byt s (3 + i) := fun i h => by
    have h3 : 3 + i < s.size := by omega
    rw [byt_gt s (3 + i) h3]
    subst hD
    show ((toL s).drop 3)[i].toNat = (toL s)[3 + i].toNat
    simp
  obtain ⟨n, hn⟩ : ∃ n, D.size = n := ⟨_, rfl⟩
  have hsn : s.size = n + 3 := by omega
  have HS : Hid (s.size = n + 3 ∧ D.size = n ∧ n ≤ 140737488355328) := ⟨hsn, hn, by omega⟩
  rw [hsn] at hN
  by_cases h0 : n = 0
  · have HN : Hid (nbr s m = none) := by
      show nbr s m = none
      have : nmb s = -1 := by rw [hN, if_pos (.inl (by omega))]
      unfold nbr; rw [this]; simp
    have hE : D.toList = [] := List.eq_nil_of_length_eq_zero (by rw [← bsize_length]; omega)
    have hE2 : D.toList.isEmpty = true := by rw [hE]; rfl
    clear hN hp hpp hD hDl hz hat hsn hn h0
    go_enter Tryz.func55, Tryz.ntmps55
    go_wp2_with (go_at_call 66; refine CC.mono ?_; rintro e w' ⟨rfl, rfl⟩)
    go_ret2
    exact ⟨by rw [HN.out]; rfl, rfl⟩
  have hE : D.toList ≠ [] := fun h => h0 (by rw [← hn, bsize_length, h]; rfl)
  have hE2 : D.toList.isEmpty = false := by simpa using hE
  have hD0 : 0 < D.size := by omega
  have hb0 := hat 0 hD0
  rw [Nat.add_zero] at hb0
  have hq48 : (D.toList == [48]) = decide (byt s 3 = 48 ∧ n = 1) := by
    rw [one_byte D hD0, hb0, hn]
  obtain ⟨c, hc⟩ : ∃ c, D[0].toNat = c := ⟨_, rfl⟩
  rw [hc] at hb0
  by_cases hlz : c = 48 ∧ n ≠ 1
  · have HN : Hid (nbr s m = none) := by
      show nbr s m = none
      have : nmb s = -1 := by rw [hN]; split; rfl; rw [if_pos ⟨by omega, by omega⟩]
      unfold nbr; rw [this]; simp
    have g1 : ((c : Int) == 48) = true := by rw [hlz.1]; rfl
    rw [decide_eq_false (by omega)] at hq48
    clear hN hp hpp hD hDl hz hat hsn hn h0 hb0 hlz
    go_enter Tryz.func55, Tryz.ntmps55
    go_wp2_with (go_at_call 66; refine CC.mono ?_; rintro e w' ⟨rfl, rfl⟩)
    go_ret2
    exact ⟨by rw [HN.out]; rfl, rfl⟩
  have g0 : ∃ u v, ((c : Int) == 48) = u ∧ (D.toList == [48]) = v ∧ (u && !v) = false := by
    refine ⟨_, _, rfl, rfl, ?_⟩
    rw [hq48]
    by_cases hc48 : c = 48
    · rw [decide_eq_true ⟨by omega, by omega⟩]; simp
    · have : ((c : Int) == 48) = false := by simp; omega
      rw [this]; rfl
  obtain ⟨u, v, g1, g2, g3⟩ := g0
  have HB0 : Hid (byt s 3 ≠ 48 ∨ n = 1) := by show byt s 3 ≠ 48 ∨ n = 1; omega
  have HN0 : Hid (0 < n) := by show 0 < n; omega
  rw [show n + 3 - 3 = n from rfl] at hN
  have HN : Hid _ := hN
  have HAT : Hid _ := hat
  have HM : Hid (m ≤ 24) := hm
  have b24 : (m : Int) ≤ 24 := by omega
  clear hN hp hpp hD hDl hz hat hsn h0 hb0 hlz hq48 hs hm hs3
  rcases u with _ | _ <;> rcases v with _ | _
  case true.false => cases g3
  all_goals
    clear g3
    go_enter Tryz.func55, Tryz.ntmps55
    go_wp2_with (go_at_call 66; refine CC.mono ?_; rintro e w' ⟨rfl, rfl⟩)
  all_goals
    clear g1 g2 hc hE hE2 hD0 CC
    go_loopw [8, 32] (fun v8 v32 wr => ∃ i k : Nat, i ≤ n ∧ v32 = .int .i64 i ∧ v8 = .int .i64 k ∧ dgN s i = some k ∧ k ≤ m ∧ wr = w') (fun _ v _ => n - (intOf v).toNat)
    case atStart => exact ⟨0, 0, Nat.zero_le _, rfl, rfl, rfl, Nat.zero_le _, rfl⟩
    case round =>
      obtain ⟨i, k, hi, rfl, rfl, hd, hk, rfl⟩ := hrel
      have bn : (n : Int) ≤ 140737488355328 := by have := HS.out.2.2; omega
      by_cases hlt : i < n
      · have b1 : (i : Int) < (n : Int) := by omega
        have hsi : i < D.size := by omega
        have hbb := HAT.out i hsi
        obtain ⟨d, hdd⟩ : ∃ d, D[i].toNat = d := ⟨_, rfl⟩
        have hd8 : d < 256 := by rw [← hdd]; exact UInt8.toNat_lt _
        rw [hdd] at hbb
        have hst : dgN s (i + 1) = if byt s (3 + i) < 48 ∨ 57 < byt s (3 + i) then none else some (10 * k + byt s (3 + i) - 48) := by
          conv => lhs; unfold dgN
          rw [hd]
        rw [← hbb] at hst
        by_cases hlo : d < 48
        · have c1 : (d : Int) < 48 := by omega
          have HR : Hid (nbr s m = none) := nbr_no (i := i + 1) HN.out hlt (by rw [hst, if_pos (.inl hlo)])
          clear hst hbb hd hk
          go_wp2
          go_ret2
          exact ⟨by rw [HR.out]; rfl, rfl⟩
        by_cases hhi : 57 < d
        · have c1 : ¬ (d : Int) < 48 := by omega
          have c2 : (57 : Int) < (d : Int) := by omega
          have HR : Hid (nbr s m = none) := nbr_no (i := i + 1) HN.out hlt (by rw [hst, if_pos (.inr hhi)])
          clear hst hbb hd hk
          go_wp2
          go_ret2
          exact ⟨by rw [HR.out]; rfl, rfl⟩
        rw [if_neg (by omega)] at hst
        have c1 : ¬ (d : Int) < 48 := by omega
        have c2 : ¬ (57 : Int) < (d : Int) := by omega
        have c3 : (k : Int) ≤ 24 := by have := HM.out; omega
        have c4 : (0 : Int) ≤ (k : Int) := by omega
        have c5 : (48 : Int) ≤ (d : Int) := by omega
        have c6 : (d : Int) ≤ 57 := by omega
        by_cases hgt : m < 10 * k + d - 48
        · have c7 : (m : Int) < 10 * (k : Int) + ((d : Int) - 48) := by omega
          have HR : Hid (nbr s m = none) := nbr_big (i := i + 1) HN.out hlt hst hgt
          clear hst hbb hd hk hgt hlo hhi
          go_wp2
          go_ret2
          exact ⟨by rw [HR.out]; rfl, rfl⟩
        · have c7 : ¬ (m : Int) < 10 * (k : Int) + ((d : Int) - 48) := by omega
          have HR : Hid (dgN s (i + 1) = some (10 * k + d - 48) ∧ 10 * k + d - 48 ≤ m ∧ ((10 * k + d - 48 : Nat) : Int) = 10 * (k : Int) + ((d : Int) - 48)) := ⟨hst, by omega, by omega⟩
          clear hst hbb hd hk hgt hlo hhi
          go_wp2
          refine ⟨⟨i + 1, 10 * k + d - 48, hlt, congrArg (Value.int .i64) (Int.natCast_succ i).symm, ?_, HR.out.1, HR.out.2.1, trivial⟩, by show n - ((i : Int) + 1).toNat < n - ((i : Int)).toNat; omega⟩
          rw [HR.out.2.2]
      · have b1 : ¬ (i : Int) < (n : Int) := by omega
        obtain rfl : i = n := by omega
        have HR : Hid (nbr s m = some k) := nbr_yes HN.out HM.out HN0.out HB0.out hd hk
        clear hd
        go_wp2
        go_ret2
        exact ⟨by rw [HR.out]; rfl, rfl⟩
end Go.Proofs.YtpfidohkohldaaaGreatDoor
/- slices.Insert of one number ahead of a list of one's own -/
namespace Go.Proofs.YtpfidohkohldaaaGreatDoor
set_option linter.unusedSimpArgs false
set_option linter.unusedVariables false
set_option maxRecDepth 100000
open Go.ChangeShapes Go.WideShapes Go.ChangeAt Go.RowKit Go.Pin Go.Pat
/-- cells written over others -/
def ovr : Array Value → Nat → List Value → Array Value
  | c, _, [] => c
  | c, o, v :: r => ovr (c.setIfInBounds o v) (o + 1) r
theorem ovr_size : ∀ (vs : List Value) (c : Array Value) (o : Nat), (ovr c o vs).size = c.size
  | [], _, _ => rfl
  | v :: r, c, o => by rw [ovr, ovr_size r, Array.size_setIfInBounds]
theorem ovr_get : ∀ (vs : List Value) (c : Array Value) (o k : Nat), o + vs.length ≤ c.size → (ovr c o vs)[k]? = if o ≤ k ∧ k < o + vs.length then vs[k - o]? else c[k]?
  | [], c, o, k, _ => by rw [ovr, if_neg (by simp)]
  | v :: r, c, o, k, h => by
    rw [List.length_cons] at h
    rw [ovr, ovr_get r _ (o + 1) k (by rw [Array.size_setIfInBounds]; omega), List.length_cons]
    by_cases h1 : o + 1 ≤ k ∧ k < o + 1 + r.length
    · rw [if_pos h1, if_pos (by omega), show k - o = (k - (o + 1)) + 1 by omega, List.getElem?_cons_succ]
    · rw [if_neg h1, Array.getElem?_setIfInBounds]
      by_cases h2 : o = k
      · rw [if_pos h2, if_pos (by omega), if_pos (by omega), show k - o = 0 by omega]
        rfl
      · rw [if_neg h2, if_neg (by omega)]
theorem row_setCells {t : TypeId} (g : Nat) : ∀ (vs : List Value) (o : Nat) (w : World) (c : Array Value), w.heap[g]? = some (.cells c t) → (w.setCells g o vs).heap[g]? = some (.cells (ovr c o vs) t)
  | [], _, _, _, h => h
  | v :: r, o, w, c, h => row_setCells g r (o + 1) _ _ (Go.heap_setCell_same w g o c t v h)
theorem grown_setCells (g : Nat) : ∀ (vs : List Value) (o : Nat) (w w0 : World), w0.grownBy w (some g) → w0.grownBy (w.setCells g o vs) (some g)
  | [], _, _, _, h => h
  | v :: r, o, w, w0, h => grown_setCells g r (o + 1) _ w0 ⟨h.os, h.tape, h.output, by rw [World.size_setCell]; exact h.size, fun k hk hne => (heap_setCell_other _ _ _ _ (fun e => hne (by rw [e]))).trans (h.block k hk hne)⟩
theorem insert7 (base : Nat) (v : Value) (C : List Int) (vb : Nat) (w : World) (hown : w.ownsRow base 3 1 v C.length (C.map (Value.int .i64))) (h0 : 0 < C.length) (hC : C.length ≤ 1000) (hv : w.heap[vb]? = some (.cells #[.int .i64 7] 3)) (hne : v.ownBlock ≠ some vb) (hb : base ≤ w.heap.size) :
    Calls Tryz.prog 56 #[v, .int .i64 0, .slice (some ⟨vb, 0, none⟩) 1 1] w fun e w' => ∃ x, e = .returned x ∧ w'.ownsRow base 3 1 x (7 :: C).length ((7 :: C).map (Value.int .i64)) ∧ w.grownBy w' v.ownBlock ∧ (x.ownBlock = v.ownBlock ∨ x.ownBlock = some w.heap.size) := by
  rcases hown.2 with ⟨_, h⟩ | ⟨g, cap, cur, rfl, h1, h2, h3, h4, h5, h6⟩
  · omega
  have hgv : g ≠ vb := fun e => hne (by rw [e]; rfl)
  rw [Nat.mul_one] at h5 h6
  have hgs := (Array.getElem?_eq_some_iff.1 h2).1
  have hcl : (C.map (Value.int .i64)).length = C.length := List.length_map ..
  have hat : ∀ j u, (C.map (Value.int .i64))[j]? = some u → w.cell? ⟨g, 0 + j, none⟩ = some u := fun j u hu => by
    have hj := (List.getElem?_eq_some_iff.1 hu).1
    rw [hcl] at hj
    rw [Nat.zero_add, cell_of_row _ _ _ _ _ _ h2, ← hu, ← h6, List.getElem?_take_of_lt hj]
    simp
  have hvs : ∀ j u, [Value.int .i64 7][j]? = some u → w.cell? ⟨vb, 0 + j, none⟩ = some u := fun j u hu => by
    rw [Nat.zero_add, cell_of_row _ _ _ _ _ _ hv]
    cases j with
    | zero => simpa using hu
    | succ j => simp at hu
  have h1c : ∀ u ∈ C.map (Value.int .i64), u.oneCell' = true := fun u hu => by
    obtain ⟨x, _, rfl⟩ := List.mem_map.1 hu
    rfl
  have h1v : ∀ u ∈ [Value.int .i64 7], u.oneCell' = true := fun u hu => by
    simp at hu
    rw [hu]; rfl
  by_cases hroom : C.length + 1 ≤ cap
  · have hsome : ∀ j, j < C.length + 1 → (w.cell? ⟨g, 0 + j, none⟩).isSome = true := fun j hj => by
      rw [Nat.zero_add, cell_of_row _ _ _ _ _ _ h2, Array.getElem?_eq_getElem (by omega)]
      rfl
    refine (Any2.slices_Insert_int_shift Tryz.laysNm221 g 0 C.length cap 0 vb 0 1 1 (C.map (Value.int .i64)) [.int .i64 7] w h0 (by decide) hroom (by unfold maxLen at h4; omega) (fun e => hgv e.symm) hcl rfl hat hsome (fun j _ => frozen_of_row _ _ _ _ _ h2) hvs h1c h1v 3 3 1 cap (by simp [World.shape?, hv]) (by simp [World.shape?, h2, h5]) (by omega) (frozen_of_row _ _ _ _ _ hv) (frozen_of_row _ _ _ _ _ hv)).mono ?_
    rintro e w' ⟨rfl, rfl⟩
    refine ⟨_, rfl, ⟨by simp, .inr ⟨g, cap, ovr (ovr cur 1 (C.map (Value.int .i64))) 0 [.int .i64 7], by simp, h1, ?_, by simpa using hroom, h4, by rw [ovr_size, ovr_size, Nat.mul_one]; exact h5, ?_⟩⟩, ?_, .inl rfl⟩
    · have r1 : (w.drew.setCells g (0 + (0 + 1)) ((C.map (Value.int .i64)).drop 0)).heap[g]? = some (.cells (ovr cur 1 (C.map (Value.int .i64))) 3) := row_setCells g _ 1 w.drew cur h2
      exact row_setCells g _ 0 _ _ r1
    · rw [Nat.mul_one]
      apply List.ext_getElem?
      intro k
      rw [List.getElem?_take]
      by_cases hk : k < (7 :: C).length
      · rw [if_pos hk, Array.getElem?_toList, ovr_get _ _ _ _ (by rw [ovr_size]; simp; omega), ovr_get _ _ _ _ (by rw [hcl]; omega)]
        simp only [List.length_cons, List.length_nil, hcl] at hk ⊢
        cases k with
        | zero => simp
        | succ k =>
          rw [if_neg (by omega), if_pos (by omega)]
          simp
      · rw [if_neg hk]
        symm
        rw [List.getElem?_eq_none]
        simpa using Nat.le_of_not_lt hk
    · exact grown_setCells g _ _ _ _ (grown_setCells g _ _ _ _ ⟨rfl, rfl, rfl, Nat.le_refl _, fun _ _ _ => rfl⟩)
  · refine (Any2.slices_Insert_int_grow Tryz.laysNm221 g 0 C.length cap 0 vb 0 1 1 (C.map (Value.int .i64)) [.int .i64 7] w h0 (by decide) h3 (by omega) (by omega) hcl rfl hat hvs h1c h1v).mono ?_
    rintro e w' ⟨rfl, rfl⟩
    obtain ⟨gc, hgc⟩ : ∃ gc, grownCap w (C.length + 1) cap (Tryz.laysNm221_ren.t 3) = gc := ⟨_, rfl⟩
    have hge : C.length + 1 ≤ gc := by rw [← hgc]; exact grownCap_ge _ _ _ _
    have hle : gc ≤ maxLen := by rw [← hgc]; exact grownCap_le_maxLen _ _ _ _ (by unfold maxLen; omega)
    rw [hgc]
    obtain ⟨z, hz⟩ : ∃ z, ((C.map (Value.int .i64)).take 0).toArray ++ Builtin.zeroCells (Value.int .i64 0).cells (C.length + 1 - 0) ++ Builtin.zeroCells (Value.int .i64 0).cells (gc - (C.length + 1)) = z := ⟨_, rfl⟩
    rw [hz]
    have hzs : z.size = gc := by
      rw [← hz]
      simp [size_zeroCells, Value.cells]
      omega
    have r0 : (w.alloc (.cells z 3)).drew.heap[w.heap.size]? = some (.cells z 3) := heap_alloc_new _ _
    have r1 := row_setCells w.heap.size [Value.int .i64 7] 0 _ _ r0
    have r2 : (((w.alloc (.cells z 3)).drew.setCells w.heap.size 0 [Value.int .i64 7]).drew.setCells w.heap.size 1 (C.map (Value.int .i64))).heap[w.heap.size]? = some (.cells (ovr (ovr z 0 [Value.int .i64 7]) 1 (C.map (Value.int .i64))) 3) := row_setCells w.heap.size _ 1 _ _ r1
    refine ⟨_, rfl, ⟨by simp, .inr ⟨w.heap.size, gc, _, by simp, hb, r2, by simpa using hge, hle, by rw [ovr_size, ovr_size, Nat.mul_one]; exact hzs, ?_⟩⟩, ?_, .inr rfl⟩
    · rw [Nat.mul_one]
      apply List.ext_getElem?
      intro k
      rw [List.getElem?_take]
      by_cases hk : k < (7 :: C).length
      · rw [if_pos hk, Array.getElem?_toList, ovr_get _ _ _ _ (by rw [ovr_size, hcl]; omega), ovr_get _ _ _ _ (by simp; omega)]
        simp only [List.length_cons, List.length_nil, hcl] at hk ⊢
        cases k with
        | zero => simp
        | succ k =>
          rw [if_pos (by omega)]
          simp
      · rw [if_neg hk]
        symm
        rw [List.getElem?_eq_none]
        simpa using Nat.le_of_not_lt hk
    · have k := grown_setCells w.heap.size (C.map (Value.int .i64)) 1 ((w.alloc (.cells z 3)).drew.setCells w.heap.size 0 [Value.int .i64 7]).drew w (by
        have k0 := grown_setCells w.heap.size [Value.int .i64 7] 0 (w.alloc (.cells z 3)).drew w ⟨rfl, rfl, rfl, by show w.heap.size ≤ (w.heap.push _).size; simp, fun k hk _ => Below.heap_alloc w _ k hk⟩
        exact ⟨k0.os, k0.tape, k0.output, k0.size, k0.block⟩)
      exact ⟨k.os, k.tape, k.output, k.size, fun j hj _ => k.block j hj (fun e => by injection e with e; omega)⟩
end Go.Proofs.YtpfidohkohldaaaGreatDoor
