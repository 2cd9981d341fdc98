import Derived.Test.YtgcijghhgcegcaaRows
import Derived.Test.YtgcijghhgcegcaaAux
namespace Go.Proofs.Ytgcijghhgcegcaa
open Go.RowKit Go.Pin
theorem size5 : ∀ w, (sizeOf 5).run Try.prog w = .ok 1 w := fun _ => by kernel_rfl
theorem info30 : (Try.prog.info? 30).map (·.size) = some 16 := by kernel_rfl
theorem info32 : (Try.prog.info? 32).map (·.size) = some 32 := by kernel_rfl
theorem info37 : (Try.prog.info? 37).map (·.size) = some 5 := by kernel_rfl

theorem ret_int {k : IntKind} {a b : Int} (h : a = b) : Ending.returned (.int k a) = .returned (.int k b) := by rw [h]
set_option maxHeartbeats 400000 in
theorem equal_any (a b : Int) (w : World) (a0 : 0 ≤ a) (a1 : a < 18446744073709551616) (b0 : 0 ≤ b) (b1 : b < 18446744073709551616) :
    Calls Try.prog 9 #[.int .u64 a, .int .u64 b] w fun e w' => e = .returned (.int .u64 (eqB a b)) ∧ w' = w := by
  have hm := equal_math a b a0 a1 b0 b1
  have H : Hid _ := hm
  clear hm a0 a1 b0 b1
  go_enter Try.func9, Try.ntmps9
  go_wp2
  go_ret
  exact ⟨ret_int H.out, rfl⟩
set_option maxHeartbeats 400000 in
theorem less_any (a b : Int) (w : World) (a0 : 0 ≤ a) (a1 : a < 18446744073709551616) (b0 : 0 ≤ b) (b1 : b < 18446744073709551616) :
    Calls Try.prog 11 #[.int .u64 a, .int .u64 b] w fun e w' => e = .returned (.int .u64 (ltB a b)) ∧ w' = w := by
  have hm := less_math a b a0 a1 b0 b1
  have H : Hid _ := hm
  clear hm a0 a1 b0 b1
  have hs : (IntKind.u64.signed = true) = False := by decide
  go_enter Try.func11, Try.ntmps11
  go_wp2
  go_ret
  exact ⟨ret_int H.out, rfl⟩
set_option maxHeartbeats 400000 in
theorem pick_any (s a b : Int) (w : World) (s0 : 0 ≤ s) (s1 : s < 18446744073709551616) (a0 : 0 ≤ a) (a1 : a < 18446744073709551616) (b0 : 0 ≤ b) (b1 : b < 18446744073709551616) :
    Calls Try.prog 12 #[.int .u64 s, .int .u64 a, .int .u64 b] w fun e w' => e = .returned (.int .u64 (pickI s a b)) ∧ w' = w := by
  have hm := pick_math s a b s0 s1 a0 a1 b0 b1
  have H : Hid _ := hm
  clear hm a0 a1 b0 b1 s0 s1
  go_enter Try.func12, Try.ntmps12
  go_wp2
  go_ret
  exact ⟨ret_int H.out, rfl⟩
set_option maxHeartbeats 400000 in
theorem bit_any (c : Bool) (w : World) :
    Calls Try.prog 10 #[.bool c] w fun e w' => e = .returned (.int .u64 (if c then 1 else 0)) ∧ w' = w := by
  cases c
  all_goals
    go_enter Try.func10, Try.ntmps10
    go_wp2
    go_ret
    exact ⟨rfl, rfl⟩
/-- what has been gathered of the differences after k bytes -/
def dif (a b : List Int) : Nat → Int
  | 0 => 0
  | k + 1 => bits .or .u8 (dif a b k) (bits .xor .u8 (a[k]?.getD 0) (b[k]?.getD 0))
def eqL (a b : List Int) : Int := if a = b then 1 else 0
theorem dif_eq (a b : List Int) (n : Nat) (ha : a.length = n) (hb : b.length = n) (wa : ∀ x ∈ a, 0 ≤ x ∧ x < 256) (wb : ∀ x ∈ b, 0 ≤ x ∧ x < 256) :
    0 ≤ dif a b n ∧ dif a b n < 256 ∧ eqB (dif a b n) 0 = eqL a b := by
  have key : ∀ k, k ≤ n → ∃ x : BitVec 8, dif a b k = (x.toNat : Int) ∧ (x = 0#8 ↔ ∀ i, i < k → a[i]?.getD 0 = b[i]?.getD 0) := by
    intro k
    induction k with
    | zero => intro _; exact ⟨0#8, rfl, by simp⟩
    | succ k ih =>
      intro hk
      obtain ⟨x, hx, hi⟩ := ih (by omega)
      have hak : a[k]?.getD 0 = a[k]'(by omega) := by simp [show k < a.length by omega]
      have hbk : b[k]?.getD 0 = b[k]'(by omega) := by simp [show k < b.length by omega]
      obtain ⟨y, hy⟩ := ofBv8 (wa _ (List.getElem_mem (show k < a.length by omega))).1 (wa _ (List.getElem_mem (show k < a.length by omega))).2
      obtain ⟨z, hz⟩ := ofBv8 (wb _ (List.getElem_mem (show k < b.length by omega))).1 (wb _ (List.getElem_mem (show k < b.length by omega))).2
      refine ⟨x ||| (y ^^^ z), ?_, ?_⟩
      · unfold dif
        rw [hx, hak, hbk, hy, hz, xor8, or8]
      · rw [BitVec.or_eq_zero_iff, hi, BitVec.xor_eq_zero_iff]
        constructor
        · rintro ⟨h1, h2⟩ i hlt
          by_cases e : i = k
          · subst e; rw [hak, hbk, hy, hz, h2]
          · exact h1 i (by omega)
        · intro h1
          refine ⟨fun i hlt => h1 i (by omega), ?_⟩
          have := h1 k (by omega)
          rw [hak, hbk, hy, hz] at this
          exact BitVec.eq_of_toNat_eq (by omega)
  obtain ⟨x, hx, hi⟩ := key n (Nat.le_refl _)
  have := x.isLt
  refine ⟨by omega, by omega, ?_⟩
  unfold eqB eqL
  have h2 : (dif a b n = 0) ↔ a = b := by
    rw [hx]
    constructor
    · intro h
      have hz : x = 0#8 := BitVec.eq_of_toNat_eq (by simp; omega)
      have hall := hi.1 hz
      apply List.ext_getElem (by omega)
      intro i h1 h2
      have := hall i (by omega)
      simpa [h1, h2] using this
    · intro h
      subst h
      rw [hi.2 (fun _ _ => rfl)]
      rfl
  by_cases h : a = b
  · rw [if_pos h, if_pos (h2.2 h)]
  · rw [if_neg h, if_neg (fun e => h (h2.1 e))]
set_option maxRecDepth 100000 in
set_option maxHeartbeats 400000 in
theorem tags_any (a b : List Int) (ha : a.length = 16) (hb : b.length = 16) (wa : ∀ x ∈ a, 0 ≤ x ∧ x < 256) (wb : ∀ x ∈ b, 0 ≤ x ∧ x < 256) (w : World) :
    Calls Try.prog 13 #[.agg (VI .u8 a), .agg (VI .u8 b)] w fun e w' => e = .returned (.int .u64 (eqL a b)) ∧ Below w.heap.size w w' := by
  have hx := fun (i : Nat) (h : i < 16) (w : World) => run_index_row (P := Try.prog) w 30 5 .u8 .i64 16 a i ha h Try.underlying30 Try.underlying5 size5
  have hc := fun (i : Nat) (h : i < 16) => VI_at .u8 b i (by omega)
  have sa := VI_size .u8 a
  have sb := VI_size .u8 b
  rw [ha] at sa
  rw [hb] at sb
  have hi : (Try.prog.info? 30).map (·.size) = some (VI .u8 a).size := by rw [sa]; exact info30
  have HI : Hid _ := hi
  obtain ⟨d0, d1, d2⟩ := dif_eq a b 16 ha hb wa wb
  have HD : Hid _ := d2
  clear wa wb ha hb hi d2
  go_enter Try.func13, Try.ntmps13
  go_wp2_with (refine wpList_load_row rfl 30 _ rfl _ rfl 30 (VI .u8 a) (0, 0) _ (heap_alloc2_old w _ _) Try.underlying30 rfl HI.out ?_)
  go_loop [5, 9] (fun d i => ∃ k : Nat, k ≤ 16 ∧ i = .int .i64 k ∧ d = .int .u8 (dif a b k)) (fun _ i => 16 - (intOf i).toNat)
  case atStart => exact ⟨0, Nat.zero_le _, rfl, rfl⟩
  case round =>
    obtain ⟨k, hk, rfl, rfl⟩ := hrel
    by_cases hlt : k < 16
    · have hxk := hx k hlt
      go_wp2
      go_round
      case rel => exact ⟨k + 1, by omega, by go_num, rfl⟩
      case measure => simp [intOf]; omega
    · have hk' : k = 16 := by omega
      subst hk'
      go_wp2_with fail
      refine (equal_any _ _ _ (by omega) (by omega) (by omega) (by omega)).mono ?_
      rintro e w' ⟨rfl, rfl⟩
      go_wp2_with fail
      go_ret
      exact ⟨ret_int HD.out, ((Below.refl _ _).alloc (Nat.le_refl _) _).alloc (by simp) _⟩
set_option maxRecDepth 100000 in
set_option maxHeartbeats 400000 in
theorem keys_any (a b : List Int) (ha : a.length = 32) (hb : b.length = 32) (wa : ∀ x ∈ a, 0 ≤ x ∧ x < 256) (wb : ∀ x ∈ b, 0 ≤ x ∧ x < 256) (w : World) :
    Calls Try.prog 14 #[.agg (VI .u8 a), .agg (VI .u8 b)] w fun e w' => e = .returned (.int .u64 (eqL a b)) ∧ Below w.heap.size w w' := by
  have hx := fun (i : Nat) (h : i < 32) (w : World) => run_index_row (P := Try.prog) w 32 5 .u8 .i64 32 a i ha h Try.underlying32 Try.underlying5 size5
  have hc := fun (i : Nat) (h : i < 32) => VI_at .u8 b i (by omega)
  have sa := VI_size .u8 a
  have sb := VI_size .u8 b
  rw [ha] at sa
  rw [hb] at sb
  have hi : (Try.prog.info? 32).map (·.size) = some (VI .u8 a).size := by rw [sa]; exact info32
  have HI : Hid _ := hi
  obtain ⟨d0, d1, d2⟩ := dif_eq a b 32 ha hb wa wb
  have HD : Hid _ := d2
  clear wa wb ha hb hi d2
  go_enter Try.func14, Try.ntmps14
  go_wp2_with (refine wpList_load_row rfl 32 _ rfl _ rfl 32 (VI .u8 a) (0, 0) _ (heap_alloc2_old w _ _) Try.underlying32 rfl HI.out ?_)
  go_loop [5, 9] (fun d i => ∃ k : Nat, k ≤ 32 ∧ i = .int .i64 k ∧ d = .int .u8 (dif a b k)) (fun _ i => 32 - (intOf i).toNat)
  case atStart => exact ⟨0, Nat.zero_le _, rfl, rfl⟩
  case round =>
    obtain ⟨k, hk, rfl, rfl⟩ := hrel
    by_cases hlt : k < 32
    · have hxk := hx k hlt
      go_wp2
      go_round
      case rel => exact ⟨k + 1, by omega, by go_num, rfl⟩
      case measure => simp [intOf]; omega
    · have hk' : k = 32 := by omega
      subst hk'
      go_wp2_with fail
      refine (equal_any _ _ _ (by omega) (by omega) (by omega) (by omega)).mono ?_
      rintro e w' ⟨rfl, rfl⟩
      go_wp2_with fail
      go_ret
      exact ⟨ret_int HD.out, ((Below.refl _ _).alloc (Nat.le_refl _) _).alloc (by simp) _⟩
/-- the key after k rounds -/
def mix (m : Int) (a b : List Int) : Nat → List Int
  | 0 => b
  | k + 1 => (mix m a b k).set k (bits .xor .u8 ((mix m a b k)[k]?.getD 0) (bits .and .u8 m (bits .xor .u8 (a[k]?.getD 0) ((mix m a b k)[k]?.getD 0))))
theorem mix_len (m : Int) (a b : List Int) (k : Nat) : (mix m a b k).length = b.length := by
  induction k with
  | zero => rfl
  | succ k ih => simp [mix, ih]
def pickL (s : Int) (a b : List Int) : List Int := if s % 2 = 1 then a else b
def mask8 (s : Int) : Int := IntKind.u64.wrap (-bits BinOp.and IntKind.u64 s 1) % 256
theorem mask8_eq (s : Int) (s0 : 0 ≤ s) (s1 : s < 18446744073709551616) : mask8 s = if s % 2 = 1 then 255 else 0 := by
  obtain ⟨z, rfl⟩ := ofBv64 s0 s1
  have hz : bits .and .u64 (z.toNat : Int) 1 = ((z.toNat % 2 : Nat) : Int) := by
    have := u64_and_nat z.toNat 1 z.isLt (by decide)
    rw [nat_mask1] at this
    exact this
  unfold mask8
  rcases Nat.mod_two_eq_zero_or_one z.toNat with h | h
  · rw [hz, h, if_neg (by omega)]; decide
  · rw [hz, h, if_pos (by omega)]; decide
theorem pick8 (x y : BitVec 8) : bits .xor .u8 (x.toNat : Int) (bits .and .u8 255 (bits .xor .u8 (y.toNat : Int) (x.toNat : Int))) = (y.toNat : Int) := by
  rw [xor8, show (255 : Int) = ((BitVec.allOnes 8).toNat : Int) by decide, and8, xor8, BitVec.allOnes_and, BitVec.xor_comm y x, ← BitVec.xor_assoc]
  simp
theorem keep8 (x y : BitVec 8) : bits .xor .u8 (x.toNat : Int) (bits .and .u8 0 (bits .xor .u8 (y.toNat : Int) (x.toNat : Int))) = (x.toNat : Int) := by
  rw [xor8, show (0 : Int) = ((0#8).toNat : Int) by decide, and8, xor8]
  simp
theorem mix_0 (a b : List Int) (n : Nat) (ha : a.length = n) (hb : b.length = n) (wa : ∀ x ∈ a, 0 ≤ x ∧ x < 256) (wb : ∀ x ∈ b, 0 ≤ x ∧ x < 256) :
    ∀ k, k ≤ n → mix 0 a b k = b := by
  intro k
  induction k with
  | zero => intro _; rfl
  | succ k ih =>
    intro hk
    have h1 : k < a.length := by omega
    have h2 : k < b.length := by omega
    have hak : a[k]?.getD 0 = a[k] := by simp [h1]
    have hbk : b[k]?.getD 0 = b[k] := by simp [h2]
    obtain ⟨y, hy⟩ := ofBv8 (wa _ (List.getElem_mem h1)).1 (wa _ (List.getElem_mem h1)).2
    obtain ⟨z, hz⟩ := ofBv8 (wb _ (List.getElem_mem h2)).1 (wb _ (List.getElem_mem h2)).2
    unfold mix
    rw [ih (by omega), hak, hbk, hy, hz, keep8, ← hz]
    exact List.set_getElem_self h2
theorem mix_255 (a b : List Int) (n : Nat) (ha : a.length = n) (hb : b.length = n) (wa : ∀ x ∈ a, 0 ≤ x ∧ x < 256) (wb : ∀ x ∈ b, 0 ≤ x ∧ x < 256) :
    ∀ k, k ≤ n → mix 255 a b k = a.take k ++ b.drop k := by
  intro k
  induction k with
  | zero => intro _; simp [mix]
  | succ k ih =>
    intro hk
    have h1 : k < a.length := by omega
    have h2 : k < b.length := by omega
    have hak : a[k]?.getD 0 = a[k] := by simp [h1]
    have hbk : (a.take k ++ b.drop k)[k]?.getD 0 = b[k] := by
      rw [List.getElem?_append_right (by simp; omega)]
      simp [Nat.min_eq_left (show k ≤ a.length by omega), h2]
    obtain ⟨y, hy⟩ := ofBv8 (wa _ (List.getElem_mem h1)).1 (wa _ (List.getElem_mem h1)).2
    obtain ⟨z, hz⟩ := ofBv8 (wb _ (List.getElem_mem h2)).1 (wb _ (List.getElem_mem h2)).2
    unfold mix
    rw [ih (by omega), hak, hbk, hy, hz, pick8, ← hy]
    rw [List.take_succ_eq_append_getElem h1, List.set_append_right _ _ (by simp; omega)]
    rw [List.length_take, Nat.min_eq_left (show k ≤ a.length by omega), Nat.sub_self, List.drop_eq_getElem_cons h2, List.set_cons_zero, List.append_assoc]
    rfl
theorem mix_pick (s : Int) (s0 : 0 ≤ s) (s1 : s < 18446744073709551616) (a b : List Int) (n : Nat) (ha : a.length = n) (hb : b.length = n) (wa : ∀ x ∈ a, 0 ≤ x ∧ x < 256) (wb : ∀ x ∈ b, 0 ≤ x ∧ x < 256) :
    mix (mask8 s) a b n = pickL s a b := by
  rw [mask8_eq s s0 s1]
  unfold pickL
  split
  · rw [mix_255 a b n ha hb wa wb n (Nat.le_refl _), List.take_of_length_le (by omega), List.drop_of_length_le (by omega)]
    simp
  · exact mix_0 a b n ha hb wa wb n (Nat.le_refl _)
theorem below_setRow {B : Nat} {a w : World} (h : Below B a w) (g : Nat) (hg : B ≤ g) (cs : Array Value) : Below B a (w.setRow g cs) :=
  ⟨h.os, h.tape, h.output, by rw [size_setRow]; exact h.size, fun k hk => by rw [setRow_other w g k cs (by omega)]; exact h.block k hk⟩
/-- what the loop knows of the world -/
structure PK (w w' : World) (l : List Int) : Prop where
  old : Below w.heap.size w w'
  size : w'.heap.size = w.heap.size + 3
  b : w'.heap[w.heap.size + 1]? = some (.cells (VI .u8 l) 32 (0, 0))
  r : ∃ c : Array Value, c.size = 32 ∧ w'.heap[w.heap.size + 2]? = some (.cells c 32 (0, 0))
theorem PK.set {w wr : World} {l : List Int} (h : PK w wr l) (k : Nat) (v : Int) :
    PK w (wr.setCell ⟨w.heap.size + 1, k, none⟩ (.int .u8 v)).drew (l.set k v) := by
  obtain ⟨h1, h2, h3, c, h4, h5⟩ := h
  refine ⟨(h1.setCell (by simp) _).drew, ?_, ?_, c, h4, ?_⟩
  · simpa using h2
  · rw [heap_drew, heap_setCell_same wr _ _ _ _ _ h3, VI_set]
  · rw [heap_drew, heap_setCell_other _ _ _ _ (by simp)]; exact h5
set_option maxRecDepth 100000 in
set_option maxHeartbeats 2000000 in
theorem pickKey_any (s : Int) (a b : List Int) (s0 : 0 ≤ s) (s1 : s < 18446744073709551616) (ha : a.length = 32) (hb : b.length = 32) (wa : ∀ x ∈ a, 0 ≤ x ∧ x < 256) (wb : ∀ x ∈ b, 0 ≤ x ∧ x < 256) (w : World) :
    Calls Try.prog 15 #[.int .u64 s, .agg (VI .u8 a), .agg (VI .u8 b)] w fun e w' => e = .returned (.agg (VI .u8 (pickL s a b))) ∧ Below w.heap.size w w' := by
  have hx := fun (i : Nat) (h : i < 32) (w : World) => run_index_row (P := Try.prog) w 32 5 .u8 .i64 32 a i ha h Try.underlying32 Try.underlying5 size5
  have sa := VI_size .u8 a
  have sb := VI_size .u8 b
  rw [ha] at sa
  rw [hb] at sb
  have HI : Hid ((Try.prog.info? 32).map (·.size) = some (VI .u8 a).size) := by rw [sa]; exact info32
  have HM : Hid _ := mix_pick s s0 s1 a b 32 ha hb wa wb
  clear wa wb s0 s1
  go_enter Try.func15, Try.ntmps15
  go_wp2_with (first | go_in | (refine wpList_load_row rfl 32 _ rfl _ rfl 32 (VI .u8 a) (0, 0) _ (heap3_0 w _ _ _) Try.underlying32 rfl HI.out ?_))
  rw [show IntKind.u64.wrap (-bits BinOp.and IntKind.u64 s 1) % 256 = mask8 s from rfl]
  generalize mask8 s = m at *
  go_loopw [14] (fun i w' => ∃ k : Nat, k ≤ 32 ∧ i = .int .i64 k ∧ PK w w' (mix m a b k)) (fun i _ => 32 - (intOf i).toNat)
  case atStart =>
    exact ⟨0, Nat.zero_le _, rfl, (((Below.refl _ _).alloc (Nat.le_refl _) _).alloc (by simp) _).alloc (by simp; omega) _, by simp, heap3_1 w _ _ _, _, rfl, heap3_2 w _ _ _⟩
  case round =>
    obtain ⟨k, hk, rfl, hp⟩ := hrel
    have HP : Hid (PK w wr (mix m a b k)) := hp
    by_cases hlt : k < 32
    · have hxk := hx k hlt
      have hcell : wr.cell? ⟨w.heap.size + 1, k, none⟩ = some (.int .u8 ((mix m a b k)[k]?.getD 0)) := by
        rw [cell_of_row wr _ _ _ _ _ hp.b, VI_at _ _ _ (by rw [mix_len]; omega)]; rfl
      have hfr : wr.frozen? ⟨w.heap.size + 1, k, none⟩ = false := frozen_of_row wr _ _ _ _ hp.b
      have hset : PK w (wr.setCell ⟨w.heap.size + 1, k, none⟩ (.int .u8 (bits .xor .u8 ((mix m a b k)[k]?.getD 0) (bits .and .u8 m (bits .xor .u8 (a[k]?.getD 0) ((mix m a b k)[k]?.getD 0)))))).drew (mix m a b (k + 1)) := hp.set k _
      rw [List.getD_eq_getElem?_getD] at hxk
      generalize a[k]?.getD 0 = ak at hxk hset
      generalize (mix m a b k)[k]?.getD 0 = bk at hcell hset
      have HS : Hid _ := hset
      clear hp hx ha hb hset HP HM sa sb HI
      go_wp2
      go_region
      go_wp2
      go_roundw
      case rel =>
        exact ⟨k + 1, by omega, by go_num, HS.out⟩
      case measure => simp [intOf]; omega
    · have hk' : k = 32 := by omega
      subst hk'
      obtain ⟨h1, h2, h3, c, h4, h5⟩ := hp
      have ml : (VI .u8 (mix m a b 32)).size = 32 := by rw [VI_size, mix_len, hb]
      have HJ : Hid ((Try.prog.info? 32).map (·.size) = some (VI .u8 (mix m a b 32)).size) := by rw [ml]; exact info32
      have H3 : Hid _ := h3
      have H5 : Hid _ := h5
      clear hx h3 h5
      go_wp2_with (first | (refine wpList_load_row rfl 32 _ rfl _ rfl 32 (VI .u8 (mix m a b 32)) (0, 0) _ H3.out Try.underlying32 rfl HJ.out ?_) | (refine wpList_store_row rfl 32 _ _ rfl _ _ rfl rfl 32 c H5.out HJ.out (h4.trans ml.symm) (VI_one _ _) ?_))
      refine bodyPost_ret (v := .agg (VI .u8 (mix m a b 32))) ?_ rfl ⟨by rw [HM.out], below_setRow h1 _ (by omega) _⟩
      exact results_cell_row (P := Try.prog) (fn := Try.f15) (p := 6) (ty := 32) rfl _ _ (w.heap.size + 1 + 1) 32 (VI .u8 (mix m a b 32)) (0, 0) _ rfl (setRow_heap wr _ c _ 32 _ H5.out) Try.underlying32 rfl HJ.out
theorem size22 : ∀ w, (sizeOf 22).run Try.prog w = .ok 1 w := fun _ => by kernel_rfl
/-- all but the blocks of S is as it was -/
structure But (S : Nat → Prop) (w w' : World) : Prop where
  os : w'.os = w.os
  tape : w'.tape = w.tape
  output : w'.output = w.output
  size : w'.heap.size = w.heap.size
  block : ∀ k, ¬ S k → w'.heap[k]? = w.heap[k]?
theorem But.refl (S : Nat → Prop) (w : World) : But S w w := ⟨rfl, rfl, rfl, rfl, fun _ _ => rfl⟩
theorem But.drew {S : Nat → Prop} {a w : World} (h : But S a w) : But S a w.drew := ⟨h.os, h.tape, h.output, h.size, h.block⟩
theorem But.setCell {S : Nat → Prop} {a w : World} (h : But S a w) {p : Addr} (hp : S p.block) (u : Value) : But S a (w.setCell p u) :=
  ⟨h.os, h.tape, h.output, by rw [← h.size]; simp [World.setCell], fun k hk => by rw [heap_setCell_other _ _ _ _ (fun e => hk (by rw [e]; exact hp))]; exact h.block k hk⟩
theorem But.below {S : Nat → Prop} {w w' : World} (h : But S w w') {B : Nat} (hS : ∀ k, S k → B ≤ k) : Below B w w' :=
  ⟨h.os, h.tape, h.output, by rw [h.size]; exact Nat.le_refl _, fun k hk => h.block k (fun hs => by have := hS k hs; omega)⟩
def spread64 (s : Int) : Int := IntKind.u64.wrap (-bits BinOp.and IntKind.u64 s 1)
/-- the two rows after k rounds -/
def sw (m : Int) (a b : List Int) : Nat → List Int × List Int
  | 0 => (a, b)
  | k + 1 =>
    let x := (sw m a b k).1[k]?.getD 0
    let y := (sw m a b k).2[k]?.getD 0
    ((sw m a b k).1.set k (bits .xor .u64 x (bits .and .u64 m (bits .xor .u64 x y))), (sw m a b k).2.set k (bits .xor .u64 y (bits .and .u64 m (bits .xor .u64 x y))))
theorem sw_len (m : Int) (a b : List Int) (k : Nat) : (sw m a b k).1.length = a.length ∧ (sw m a b k).2.length = b.length := by
  induction k with
  | zero => exact ⟨rfl, rfl⟩
  | succ k ih => simp [sw, ih]
structure SW (ga gb : Nat) (w w' : World) (la lb : List Int) : Prop where
  but : But (fun k => k = ga ∨ k = gb) w w'
  a : w'.heap[ga]? = some (.cells (VI .u64 la) 37 (0, 0))
  b : w'.heap[gb]? = some (.cells (VI .u64 lb) 37 (0, 0))
theorem SW.setA {ga gb : Nat} {w wr : World} {la lb : List Int} (hn : ga ≠ gb) (h : SW ga gb w wr la lb) (k : Nat) (v : Int) :
    SW ga gb w (wr.setCell ⟨ga, k, none⟩ (.int .u64 v)) (la.set k v) lb := by
  refine ⟨h.but.setCell (Or.inl rfl) _, ?_, ?_⟩
  · rw [heap_setCell_same wr _ _ _ _ _ h.a, VI_set]
  · rw [heap_setCell_other _ _ _ _ (fun e => hn e.symm)]; exact h.b
theorem SW.setB {ga gb : Nat} {w wr : World} {la lb : List Int} (hn : ga ≠ gb) (h : SW ga gb w wr la lb) (k : Nat) (v : Int) :
    SW ga gb w (wr.setCell ⟨gb, k, none⟩ (.int .u64 v)) la (lb.set k v) := by
  refine ⟨h.but.setCell (Or.inr rfl) _, ?_, ?_⟩
  · rw [heap_setCell_other _ _ _ _ (fun e => hn e)]; exact h.a
  · rw [heap_setCell_same wr _ _ _ _ _ h.b, VI_set]
theorem SW.drew {ga gb : Nat} {w wr : World} {la lb : List Int} (h : SW ga gb w wr la lb) : SW ga gb w wr.drew la lb := ⟨h.but.drew, h.a, h.b⟩
set_option maxRecDepth 100000 in
set_option maxHeartbeats 1000000 in
theorem swap_two (s : Int) (ga gb : Nat) (hn : ga ≠ gb) (a b : List Int) (ha : a.length = 5) (hb : b.length = 5) (w : World) (h0 : SW ga gb w w a b) :
    Calls Try.prog 16 #[.int .u64 s, .pointer (some ⟨ga, 0, none⟩), .pointer (some ⟨gb, 0, none⟩)] w fun e w' => e = .returned (.tuple #[]) ∧ SW ga gb w w' (sw (spread64 s) a b 5).1 (sw (spread64 s) a b 5).2 := by
  have H0 : Hid _ := h0
  have hz := H0.out.but
  clear h0
  go_enter Try.func16, Try.ntmps16
  go_wp2
  rw [show IntKind.u64.wrap (-bits BinOp.and IntKind.u64 s 1) = spread64 s from rfl]
  go_loopw [17] (fun i w' => ∃ k : Nat, k ≤ 5 ∧ i = .int .i64 k ∧ SW ga gb w w' (sw (spread64 s) a b k).1 (sw (spread64 s) a b k).2) (fun i _ => 5 - (intOf i).toNat)
  case atStart =>
    exact ⟨0, Nat.zero_le _, rfl, H0.out⟩
  case round =>
    obtain ⟨k, hk, rfl, hp⟩ := hrel
    by_cases hlt : k < 5
    · have hcA : wr.cell? ⟨ga, k, none⟩ = some (.int .u64 ((sw (spread64 s) a b k).1[k]?.getD 0)) := by
        rw [cell_of_row wr _ _ _ _ _ hp.a, VI_at _ _ _ (by rw [(sw_len _ a b k).1]; omega)]; rfl
      have hfA : wr.frozen? ⟨ga, k, none⟩ = false := frozen_of_row wr _ _ _ _ hp.a
      have hcB : wr.cell? ⟨gb, k, none⟩ = some (.int .u64 ((sw (spread64 s) a b k).2[k]?.getD 0)) := by
        rw [cell_of_row wr _ _ _ _ _ hp.b, VI_at _ _ _ (by rw [(sw_len _ a b k).2]; omega)]; rfl
      have hfB : wr.frozen? ⟨gb, k, none⟩ = false := frozen_of_row wr _ _ _ _ hp.b
      have hset : ∀ W1, SW ga gb w W1 (sw (spread64 s) a b k).1 (sw (spread64 s) a b k).2 → SW ga gb w ((W1.setCell ⟨ga, k, none⟩ (.int .u64 (bits .xor .u64 ((sw (spread64 s) a b k).1[k]?.getD 0) (bits .and .u64 (spread64 s) (bits .xor .u64 ((sw (spread64 s) a b k).1[k]?.getD 0) ((sw (spread64 s) a b k).2[k]?.getD 0)))))).setCell ⟨gb, k, none⟩ (.int .u64 (bits .xor .u64 ((sw (spread64 s) a b k).2[k]?.getD 0) (bits .and .u64 (spread64 s) (bits .xor .u64 ((sw (spread64 s) a b k).1[k]?.getD 0) ((sw (spread64 s) a b k).2[k]?.getD 0)))))) (sw (spread64 s) a b (k + 1)).1 (sw (spread64 s) a b (k + 1)).2 :=
        fun W1 h => (h.setA hn k _).setB hn k _
      generalize (sw (spread64 s) a b k).1[k]?.getD 0 = ak at hcA hset
      generalize (sw (spread64 s) a b k).2[k]?.getD 0 = bk at hcB hset
      have HS : Hid _ := hset
      have HP : Hid _ := hp
      clear hp ha hb hset hz H0
      have hne : (⟨ga, k, none⟩ : Addr) ≠ ⟨gb, k, none⟩ := fun e => hn (congrArg Addr.block e)
      go_wp2
      go_region
      go_wp2
      go_region
      go_wp2
      go_region
      go_wp2
      go_roundw
      case rel =>
        exact ⟨k + 1, by omega, by go_num, (HS.out _ HP.out).drew.drew.drew⟩
      case measure => simp [intOf]; omega
    · have hk' : k = 5 := by omega
      subst hk'
      have HP : Hid _ := hp
      clear hp ha hb hz
      go_wp2
      go_end0
      exact ⟨rfl, HP.out⟩

theorem spread_eq (s : Int) (s0 : 0 ≤ s) (s1 : s < 18446744073709551616) : spread64 s = if s % 2 = 1 then ((BitVec.allOnes 64).toNat : Int) else ((0#64).toNat : Int) := by
  obtain ⟨z, rfl⟩ := ofBv64 s0 s1
  have hz : bits .and .u64 (z.toNat : Int) 1 = ((z.toNat % 2 : Nat) : Int) := by
    have := u64_and_nat z.toNat 1 z.isLt (by decide)
    rw [nat_mask1] at this
    exact this
  unfold spread64
  rcases Nat.mod_two_eq_zero_or_one z.toNat with h | h
  · rw [hz, h, if_neg (by omega)]; decide
  · rw [hz, h, if_pos (by omega)]; decide
theorem swp1 (x y : BitVec 64) : bits .xor .u64 (x.toNat : Int) (bits .and .u64 ((BitVec.allOnes 64).toNat : Int) (bits .xor .u64 (x.toNat : Int) (y.toNat : Int))) = (y.toNat : Int) := by
  rw [xor64, and64, xor64, BitVec.allOnes_and, ← BitVec.xor_assoc]
  simp
theorem swp2 (x y : BitVec 64) : bits .xor .u64 (y.toNat : Int) (bits .and .u64 ((BitVec.allOnes 64).toNat : Int) (bits .xor .u64 (x.toNat : Int) (y.toNat : Int))) = (x.toNat : Int) := by
  rw [xor64, and64, xor64, BitVec.allOnes_and, BitVec.xor_comm x y, ← BitVec.xor_assoc]
  simp
theorem swk (x y z : BitVec 64) : bits .xor .u64 (z.toNat : Int) (bits .and .u64 ((0#64).toNat : Int) (bits .xor .u64 (x.toNat : Int) (y.toNat : Int))) = (z.toNat : Int) := by
  rw [xor64, and64, xor64]
  simp
theorem sw_0 (a b : List Int) (n : Nat) (ha : a.length = n) (hb : b.length = n) (wa : ∀ x ∈ a, 0 ≤ x ∧ x < 18446744073709551616) (wb : ∀ x ∈ b, 0 ≤ x ∧ x < 18446744073709551616) :
    ∀ k, k ≤ n → sw ((0#64).toNat : Int) a b k = (a, b) := by
  intro k
  induction k with
  | zero => intro _; rfl
  | succ k ih =>
    intro hk
    have h1 : k < a.length := by omega
    have h2 : k < b.length := by omega
    have hak : a[k]?.getD 0 = a[k] := by simp [h1]
    have hbk : b[k]?.getD 0 = b[k] := by simp [h2]
    obtain ⟨y, hy⟩ := ofBv64 (wa _ (List.getElem_mem h1)).1 (wa _ (List.getElem_mem h1)).2
    obtain ⟨z, hz⟩ := ofBv64 (wb _ (List.getElem_mem h2)).1 (wb _ (List.getElem_mem h2)).2
    unfold sw
    simp only [ih (show k ≤ n by omega)]
    rw [hak, hbk, hy, hz, swk, swk, ← hy, ← hz, List.set_getElem_self h1, List.set_getElem_self h2]
theorem set_step (a b : List Int) (k : Nat) (h1 : k < a.length) (h2 : k < b.length) : (a.take k ++ b.drop k).set k a[k] = a.take (k + 1) ++ b.drop (k + 1) := by
  rw [List.take_succ_eq_append_getElem h1, List.set_append_right _ _ (by simp; omega)]
  rw [List.length_take, Nat.min_eq_left (show k ≤ a.length by omega), Nat.sub_self, List.drop_eq_getElem_cons h2, List.set_cons_zero, List.append_assoc]
  rfl
theorem get_step (a b : List Int) (k : Nat) (h1 : k < a.length) (h2 : k < b.length) : (a.take k ++ b.drop k)[k]?.getD 0 = b[k] := by
  rw [List.getElem?_append_right (by simp; omega)]
  simp [Nat.min_eq_left (show k ≤ a.length by omega), h2]
theorem sw_1 (a b : List Int) (n : Nat) (ha : a.length = n) (hb : b.length = n) (wa : ∀ x ∈ a, 0 ≤ x ∧ x < 18446744073709551616) (wb : ∀ x ∈ b, 0 ≤ x ∧ x < 18446744073709551616) :
    ∀ k, k ≤ n → sw ((BitVec.allOnes 64).toNat : Int) a b k = (b.take k ++ a.drop k, a.take k ++ b.drop k) := by
  intro k
  induction k with
  | zero => intro _; simp [sw]
  | succ k ih =>
    intro hk
    have h1 : k < a.length := by omega
    have h2 : k < b.length := by omega
    obtain ⟨y, hy⟩ := ofBv64 (wa _ (List.getElem_mem h1)).1 (wa _ (List.getElem_mem h1)).2
    obtain ⟨z, hz⟩ := ofBv64 (wb _ (List.getElem_mem h2)).1 (wb _ (List.getElem_mem h2)).2
    unfold sw
    simp only [ih (show k ≤ n by omega)]
    rw [get_step b a k h2 h1, get_step a b k h1 h2, hy, hz, swp1, swp2, ← hy, ← hz, set_step a b k h1 h2, set_step b a k h2 h1]
theorem sw_eq (s : Int) (s0 : 0 ≤ s) (s1 : s < 18446744073709551616) (a b : List Int) (n : Nat) (ha : a.length = n) (hb : b.length = n) (wa : ∀ x ∈ a, 0 ≤ x ∧ x < 18446744073709551616) (wb : ∀ x ∈ b, 0 ≤ x ∧ x < 18446744073709551616) :
    sw (spread64 s) a b n = if s % 2 = 1 then (b, a) else (a, b) := by
  rw [spread_eq s s0 s1]
  by_cases h : s % 2 = 1
  · rw [if_pos h, if_pos h, sw_1 a b n ha hb wa wb n (Nat.le_refl _), List.take_of_length_le (by omega), List.take_of_length_le (by omega), List.drop_of_length_le (by omega), List.drop_of_length_le (by omega)]
    simp
  · rw [if_neg h, if_neg h]
    exact sw_0 a b n ha hb wa wb n (Nat.le_refl _)
set_option maxHeartbeats 400000 in
theorem swap_nil1 (s : Int) (q : Option Addr) (w : World) :
    Calls Try.prog 16 #[.int .u64 s, .pointer none, .pointer q] w fun e w' => e = .returned (.tuple #[]) ∧ w' = w := by
  go_enter Try.func16, Try.ntmps16
  go_wp2
  exact bodyPost_ret (results_none rfl _ _ _) rfl ⟨rfl, rfl⟩
set_option maxHeartbeats 400000 in
theorem swap_nil2 (s : Int) (q : Option Addr) (w : World) :
    Calls Try.prog 16 #[.int .u64 s, .pointer q, .pointer none] w fun e w' => e = .returned (.tuple #[]) ∧ w' = w := by
  cases q
  all_goals
    go_enter Try.func16, Try.ntmps16
    go_wp2
    exact bodyPost_ret (results_none rfl _ _ _) rfl ⟨rfl, rfl⟩
theorem xorself (s x : Int) (s0 : 0 ≤ s) (s1 : s < 18446744073709551616) (x0 : 0 ≤ x) (x1 : x < 18446744073709551616) : bits .xor .u64 x (bits .and .u64 (spread64 s) (bits .xor .u64 x x)) = x := by
  obtain ⟨y, rfl⟩ := ofBv64 x0 x1
  rw [spread_eq s s0 s1]
  split
  · exact swp1 y y
  · exact swk y y y
set_option maxRecDepth 100000 in
set_option maxHeartbeats 1000000 in
theorem swap_one (s : Int) (s0 : 0 ≤ s) (s1 : s < 18446744073709551616) (ga : Nat) (a : List Int) (ha : a.length = 5) (wa : ∀ x ∈ a, 0 ≤ x ∧ x < 18446744073709551616) (w : World) (h0 : SW ga ga w w a a) :
    Calls Try.prog 16 #[.int .u64 s, .pointer (some ⟨ga, 0, none⟩), .pointer (some ⟨ga, 0, none⟩)] w fun e w' => e = .returned (.tuple #[]) ∧ SW ga ga w w' a a := by
  have H0 : Hid _ := h0
  have hz := H0.out.but
  have hself := fun x (hx : x ∈ a) => xorself s x s0 s1 (wa x hx).1 (wa x hx).2
  clear h0 wa s0 s1
  have HX : Hid _ := hself
  clear hself
  go_enter Try.func16, Try.ntmps16
  go_wp2
  rw [show IntKind.u64.wrap (-bits BinOp.and IntKind.u64 s 1) = spread64 s from rfl]
  go_loopw [17] (fun i w' => ∃ k : Nat, k ≤ 5 ∧ i = .int .i64 k ∧ SW ga ga w w' a a) (fun i _ => 5 - (intOf i).toNat)
  case atStart =>
    exact ⟨0, Nat.zero_le _, rfl, H0.out⟩
  case round =>
    obtain ⟨k, hk, rfl, hp⟩ := hrel
    by_cases hlt : k < 5
    · have hcA : wr.cell? ⟨ga, k, none⟩ = some (.int .u64 (a[k]?.getD 0)) := by
        rw [cell_of_row wr _ _ _ _ _ hp.a, VI_at _ _ _ (by omega)]; rfl
      have hfA : wr.frozen? ⟨ga, k, none⟩ = false := frozen_of_row wr _ _ _ _ hp.a
      have hin : k < a.length := by omega
      have hself : bits .xor .u64 (a[k]?.getD 0) (bits .and .u64 (spread64 s) (bits .xor .u64 (a[k]?.getD 0) (a[k]?.getD 0))) = a[k]?.getD 0 :=
        HX.out _ (by rw [List.getElem?_eq_getElem hin]; exact List.getElem_mem hin)
      have hone : ∀ W1, SW ga ga w W1 a a → SW ga ga w (W1.setCell ⟨ga, k, none⟩ (.int .u64 (a[k]?.getD 0))) a a := by
        intro W1 h
        have hs : a.set k (a[k]?.getD 0) = a := by
          rw [List.getElem?_eq_getElem hin]; exact List.set_getElem_self hin
        have hh : (W1.setCell ⟨ga, k, none⟩ (.int .u64 (a[k]?.getD 0))).heap[ga]? = some (.cells (VI .u64 a) 37 (0, 0)) := by
          rw [heap_setCell_same W1 _ _ _ _ _ h.a, VI_set, hs]
        exact ⟨h.but.setCell (Or.inl rfl) _, hh, hh⟩
      generalize a[k]?.getD 0 = ak at hcA hself hone
      have HS : Hid _ := hone
      have HP : Hid _ := hp
      clear hp ha hone hz H0 HX
      go_wp2
      go_region
      go_wp2
      go_region
      go_wp2
      go_region
      go_wp2
      go_roundw
      case rel =>
        exact ⟨k + 1, by omega, by go_num, (HS.out _ (HS.out _ HP.out)).drew.drew.drew⟩
      case measure => simp [intOf]; omega
    · have hk' : k = 5 := by omega
      subst hk'
      have HP : Hid _ := hp
      clear hp ha hz
      go_wp2
      go_end0
      exact ⟨rfl, HP.out⟩

theorem zero5 : ∀ w, (zeroValue 5).run Try.prog w = .ok (.int .u8 0) w := fun _ => by kernel_rfl
set_option maxHeartbeats 400000 in
theorem wipe_some (b o n c : Nat) (hn : 0 < n) (w : World) (hc : ∀ j, j < n → (w.cell? ⟨b, o + j, none⟩).isSome = true) (hf : ∀ j, j < n → w.frozen? ⟨b, o + j, none⟩ = false) :
    Calls Try.prog 17 #[.slice (some ⟨b, o, none⟩) n c] w fun e w' => e = .returned (.tuple #[]) ∧ w' = w.setCells b o (List.replicate n (.int .u8 0)) := by
  have hcl : ∀ ty, (Builtin.clear_ #[41] ty #[.slice (some ⟨b, o, none⟩) n c]).run Try.prog w = .ok (.tuple #[]) (w.setCells b o (List.replicate n (.int .u8 0))) :=
    fun ty => Lib.run_clear_slice w 41 5 ty (.int .u8 0) Try.underlying41 zero5 rfl rfl b o n c hn hc hf
  clear hc hf
  go_enter Try.func17, Try.ntmps17
  go_wp2
  go_end0
  exact ⟨rfl, rfl⟩
set_option maxHeartbeats 400000 in
theorem wipe_none (a : Option Addr) (c : Nat) (w : World) :
    Calls Try.prog 17 #[.slice a 0 c] w fun e w' => e = .returned (.tuple #[]) ∧ w' = w := by
  have hcl : ∀ ty, (Builtin.clear_ #[41] ty #[.slice a 0 c]).run Try.prog w = .ok (.tuple #[]) w := fun ty => by
    cases a <;> simp [Builtin.clear_, run_underlying Try.underlying41]
  go_enter Try.func17, Try.ntmps17
  go_wp2
  go_end0
  exact ⟨rfl, rfl⟩
end Go.Proofs.Ytgcijghhgcegcaa
