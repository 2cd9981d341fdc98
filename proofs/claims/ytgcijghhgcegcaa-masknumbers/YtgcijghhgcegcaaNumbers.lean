import Derived.Test.YtgcijghhgcegcaaKnown
import Derived.Test.YtgcijghhgcegcaaLift
namespace Go.Proofs.Ytgcijghhgcegcaa
open Go.ChangeShapes Go.WideShapes Go.ChangeAt Go.RowKit Go.Pin
def L8 (a b : Int) : List Int := [a, b, IntKind.u64.wrap (a + 1), IntKind.u64.wrap (b - 1), 0, 18446744073709551615, 9223372036854775808, 9223372036854775807]
theorem info22 : (Try.prog.info? 22).map (fun i => (i.zero, i.size, i.bytes)) = some (some (.int .u64 0), 1, 8) := by kernel_rfl
def sh (a : Int) (k : Nat) : Int := bits .xor .u64 a (IntKind.u64.wrap (2 ^ k))
def LK (a b : Int) : Nat → List Int
  | 0 => L8 a b
  | k + 1 => LK a b k ++ [sh a k]
theorem LK_len (a b : Int) (k : Nat) : (LK a b k).length = 8 + k := by
  induction k with
  | zero => rfl
  | succ k ih => simp [LK, ih]; omega
def inU (x : Int) : Prop := 0 ≤ x ∧ x < 18446744073709551616
theorem inU_wrap (x : Int) : inU (IntKind.u64.wrap x) := by
  rw [IntKind.wrap_u64]
  exact ⟨Int.emod_nonneg _ (by decide), Int.emod_lt_of_pos _ (by decide)⟩
theorem inU_wf {a : Int} (h : (Lit.int .u64 a).wf = true) : inU a := by
  have := bounds_u64 h
  exact ⟨by omega, by omega⟩
theorem inU_xor (x y : Int) (hx : inU x) (hy : inU y) : inU (bits .xor .u64 x y) := by
  obtain ⟨p, rfl⟩ := ofBv64 hx.1 hx.2
  obtain ⟨q, rfl⟩ := ofBv64 hy.1 hy.2
  rw [xor64]
  have := (p ^^^ q).isLt
  exact ⟨by omega, by omega⟩
theorem LK_in (a b : Int) (ha : inU a) (hb : inU b) (k : Nat) : ∀ x ∈ LK a b k, inU x := by
  induction k with
  | zero =>
    intro x hx
    simp only [LK, L8, List.mem_cons, List.not_mem_nil, or_false] at hx
    rcases hx with rfl | rfl | rfl | rfl | rfl | rfl | rfl | rfl
    · exact ha
    · exact hb
    · exact inU_wrap _
    · exact inU_wrap _
    all_goals (constructor <;> decide)
  | succ k ih =>
    intro x hx
    rw [LK, List.mem_append] at hx
    rcases hx with hx | hx
    · exact ih x hx
    · rw [List.mem_singleton] at hx
      rw [hx]
      exact inU_xor _ _ ha (inU_wrap _)
def bitI (c : Bool) : Int := if c then 1 else 0
theorem equal_bit (x y : Int) (w : World) (hx : inU x) (hy : inU y) :
    Calls Try.prog 9 #[.int .u64 x, .int .u64 y] w fun e w' => e = .returned (.int .u64 (bitI (x == y))) ∧ w' = w := by
  refine (equal_any x y w hx.1 hx.2 hy.1 hy.2).mono ?_
  rintro e w' ⟨rfl, rfl⟩
  refine ⟨?_, rfl⟩
  by_cases h : x = y <;> simp [eqB, bitI, h]
theorem less_bit (x y : Int) (w : World) (hx : inU x) (hy : inU y) :
    Calls Try.prog 11 #[.int .u64 x, .int .u64 y] w fun e w' => e = .returned (.int .u64 (bitI (decide (x < y)))) ∧ w' = w := by
  refine (less_any x y w hx.1 hx.2 hy.1 hy.2).mono ?_
  rintro e w' ⟨rfl, rfl⟩
  refine ⟨?_, rfl⟩
  by_cases h : x < y <;> simp [ltB, bitI, h]
theorem bit_bit (c : Bool) (w : World) :
    Calls Try.prog 10 #[.bool c] w fun e w' => e = .returned (.int .u64 (bitI c)) ∧ w' = w := bit_any c w
theorem pick_one (s x y : Int) (w : World) (hs : inU s) (hx : inU x) (hy : inU y) (h : s % 2 = 1) :
    Calls Try.prog 12 #[.int .u64 s, .int .u64 x, .int .u64 y] w fun e w' => e = .returned (.int .u64 x) ∧ w' = w := by
  refine (pick_any s x y w hs.1 hs.2 hx.1 hx.2 hy.1 hy.2).mono ?_
  rintro e w' ⟨rfl, rfl⟩
  exact ⟨by simp [pickI, h], rfl⟩
theorem pick_two (s x y : Int) (w : World) (hs : inU s) (hx : inU x) (hy : inU y) (h : s % 2 = 0) :
    Calls Try.prog 12 #[.int .u64 s, .int .u64 x, .int .u64 y] w fun e w' => e = .returned (.int .u64 y) ∧ w' = w := by
  refine (pick_any s x y w hs.1 hs.2 hx.1 hx.2 hy.1 hy.2).mono ?_
  rintro e w' ⟨rfl, rfl⟩
  exact ⟨by simp [pickI, h], rfl⟩
set_option maxRecDepth 100000 in
set_option maxHeartbeats 1000000 in
theorem numbers_walk (a b s : Int) (w0 : (Lit.int .u64 a).wf = true) (w1 : (Lit.int .u64 b).wf = true) (w2 : (Lit.int .u64 s).wf = true) (w : World) :
    Calls Try.prog 3 #[.int .u64 a, .int .u64 b, .int .u64 s] w fun e w' => e = .returned (.bool true) ∧ Below w.heap.size w w' := by
  go_enter Try.func3, Try.ntmps3
  go_wp2_with (go_at_call 8; refine (known_any _).mono ?_; rintro e w3 ⟨rfl, hb3⟩)
  obtain ⟨i0, hi, hz0, hz1, hz2⟩ := info_parts info22
  have hsz := hb3.size
  go_loopw [7, 8] (fun v i wr => ∃ k : Nat, k ≤ 64 ∧ i = .int .i64 k ∧ wr.ownsRow w.heap.size 22 1 v (8 + k) ((LK a b k).map (Value.int .u64)) ∧ Below w.heap.size w wr)
    (fun _ i _ => 64 - (intOf i).toNat)
  case atStart => exact ⟨0, Nat.zero_le _, rfl, World.ownsRow_lit w3 _ 8 hsz (by decide) rfl, hb3.alloc hsz _⟩
  case round =>
    obtain ⟨k, hk, rfl, hown, hbel⟩ := hrel
    have hsz' := hbel.size
    by_cases hlt : k < 64
    · go_wp2_with (at_builtin; refine wpList_append_own _ rfl _ _ 24 rfl w.heap.size 22 i0 (.int .u64 0) 1 8 Try.underlying24 hi hz0 hz1 hz2 rfl (by decide) _ _ _ rfl (hown.alloc _) ⟨wr.heap.size, 0, none⟩ 1 1 [.int .u64 (sh a k)] rfl rfl ?_ ?_ ?_ ?_ ?_ ?_)
      · intro j u hj
        match j, hj with
        | 0, hj => simp at hj; subst hj; simp [Addr.add, sh]
      · intro u hu; simp at hu; subst hu; rfl
      · unfold maxLen; omega
      · omega
      · simp; omega
      · intro v' w' hown' hgrow hnn
        have R1 : w'.ownsRow w.heap.size 22 1 v' (8 + (k + 1)) ((LK a b (k + 1)).map (Value.int .u64)) := by
          rw [LK, List.map_append]; exact hown'
        have R2 : Below w.heap.size w w' := (hbel.alloc hsz' _).grown hgrow (by simp; omega) (fun r hr => (hown.lt r hr).1)
        clear hown' hgrow hown hbel hnn
        go_wp2
        go_roundw
        case rel => exact ⟨k + 1, by omega, by go_num, R1, R2⟩
        case measure => simp [intOf]; omega
    · have hk' : k = 64 := by omega
      subst hk'
      obtain ⟨hlen, hv⟩ := hown
      rcases hv with ⟨_, h0⟩ | ⟨g, cap, cur, rfl, hg1, hg2, hg3, hg4, hg5, hg6⟩
      · omega
      have hall := LK_in a b (inU_wf w0) (inU_wf w1) 64
      have hlk := LK_len a b 64
      have HC : ∀ j, j < 72 → wr.cell? ⟨g, j, none⟩ = some (.int .u64 ((LK a b 64)[j]?.getD 0)) := by
        intro j hj
        rw [cell_of_row wr g j cur 22 (0, 0) hg2]
        have : (cur.toList.take ((8 + 64) * 1))[j]? = ((LK a b 64).map (Value.int .u64))[j]? := by rw [hg6]
        rw [List.getElem?_take, if_pos (by omega), Array.getElem?_toList, List.getElem?_map, List.getElem?_eq_getElem (by omega)] at this
        rw [this, List.getElem?_eq_getElem (by omega)]
        rfl
      have HU : ∀ j, j < 72 → inU ((LK a b 64)[j]?.getD 0) := by
        intro j hj
        rw [List.getElem?_eq_getElem (by omega)]
        exact hall _ (List.getElem_mem (by omega))
      have ha := inU_wf w0
      have hb := inU_wf w1
      have hs := inU_wf w2
      clear hall hlk hg1 hg2 hg3 hg4 hg5 hg6 hlen w0 w1 w2 hi hz0 hz1 hz2 hb3 hsz hsz'
      generalize LK a b 64 = l at HC HU
      go_wp2_with fail
      go_loop [9] (fun t => ∃ i : Nat, i ≤ 72 ∧ t = .int .i64 i) (fun t => 72 - (intOf t).toNat)
      case atStart => exact ⟨0, by omega, rfl⟩
      case round =>
        obtain ⟨i, hi72, rfl⟩ := hrel
        by_cases hi' : i < 72
        · have hcell := HC i hi'
          have hli := HU i hi'
          generalize l[i]?.getD 0 = li at hcell hli
          clear HC HU
          have hs0 : 0 ≤ s := hs.1
          go_wp2_with fail
          go_loop [10] (fun t => ∃ k : Nat, k ≤ 2 ∧ t = .int .i64 k) (fun t => 2 - (intOf t).toNat)
          case atStart => exact ⟨0, by omega, rfl⟩
          case round =>
            obtain ⟨k, hk2, rfl⟩ := hrel
            have hk3 : k = 0 ∨ k = 1 ∨ k = 2 := by omega
            rcases hk3 with rfl | rfl | rfl
            · by_cases hpar : s % 2 = 1
              · go_wp2_with (first | (go_at_call 9; refine (equal_bit _ _ _ (by assumption) (by assumption)).mono ?_; rintro e w' ⟨rfl, rfl⟩) | (go_at_call 10; refine (bit_bit _ _).mono ?_; rintro e w' ⟨rfl, rfl⟩) | (go_at_call 11; refine (less_bit _ _ _ (by assumption) (by assumption)).mono ?_; rintro e w' ⟨rfl, rfl⟩) | (go_at_call 12; refine (pick_one _ _ _ _ hs (by assumption) (by assumption) hpar).mono ?_; rintro e w' ⟨rfl, rfl⟩))
                go_round
                case rel => exact ⟨0+1, by omega, by go_num⟩
                case measure => simp [intOf]
              · have hpar' : s % 2 = 0 := by omega
                go_wp2_with (first | (go_at_call 9; refine (equal_bit _ _ _ (by assumption) (by assumption)).mono ?_; rintro e w' ⟨rfl, rfl⟩) | (go_at_call 10; refine (bit_bit _ _).mono ?_; rintro e w' ⟨rfl, rfl⟩) | (go_at_call 11; refine (less_bit _ _ _ (by assumption) (by assumption)).mono ?_; rintro e w' ⟨rfl, rfl⟩) | (go_at_call 12; refine (pick_two _ _ _ _ hs (by assumption) (by assumption) hpar').mono ?_; rintro e w' ⟨rfl, rfl⟩))
                go_round
                case rel => exact ⟨0+1, by omega, by go_num⟩
                case measure => simp [intOf]
            · by_cases hpar : s % 2 = 1
              · go_wp2_with (first | (go_at_call 9; refine (equal_bit _ _ _ (by assumption) (by assumption)).mono ?_; rintro e w' ⟨rfl, rfl⟩) | (go_at_call 10; refine (bit_bit _ _).mono ?_; rintro e w' ⟨rfl, rfl⟩) | (go_at_call 11; refine (less_bit _ _ _ (by assumption) (by assumption)).mono ?_; rintro e w' ⟨rfl, rfl⟩) | (go_at_call 12; refine (pick_one _ _ _ _ hs (by assumption) (by assumption) hpar).mono ?_; rintro e w' ⟨rfl, rfl⟩))
                go_round
                case rel => exact ⟨1+1, by omega, by go_num⟩
                case measure => simp [intOf]
              · have hpar' : s % 2 = 0 := by omega
                go_wp2_with (first | (go_at_call 9; refine (equal_bit _ _ _ (by assumption) (by assumption)).mono ?_; rintro e w' ⟨rfl, rfl⟩) | (go_at_call 10; refine (bit_bit _ _).mono ?_; rintro e w' ⟨rfl, rfl⟩) | (go_at_call 11; refine (less_bit _ _ _ (by assumption) (by assumption)).mono ?_; rintro e w' ⟨rfl, rfl⟩) | (go_at_call 12; refine (pick_two _ _ _ _ hs (by assumption) (by assumption) hpar').mono ?_; rintro e w' ⟨rfl, rfl⟩))
                go_round
                case rel => exact ⟨1+1, by omega, by go_num⟩
                case measure => simp [intOf]
            · go_wp2_with fail
              go_round
              case rel => exact ⟨i + 1, by omega, by go_num⟩
              case measure => simp [intOf]; omega
        · go_wp2_with (first | (go_at_call 9; refine (equal_bit _ _ _ (by assumption) (by assumption)).mono ?_; rintro e w' ⟨rfl, rfl⟩) | (go_at_call 11; refine (less_bit _ _ _ (by assumption) (by assumption)).mono ?_; rintro e w' ⟨rfl, rfl⟩))
          go_ret
          exact ⟨by simp [bitI], hbel⟩

set_option maxRecDepth 100000 in
theorem numbers_lifted (os : Os) (started : os.Started) (H : Type) (enc : TypeId × Value → H) :
    ReturnsInHanded {} Try.checked os 3 .any (Rows.maskNumbersSpec.pre6 enc Try.prog Try.f3 Rows.maskNumbersRow.domain false) (Rows.maskNumbersSpec.post enc Try.prog Try.f3 false true false false) := by
  refine returnsInHanded_of_change (C := Try.checked) own started (by kernel_rfl) Try.func3
    (ChangeSpec.witness6 (enc := enc) (C := Try.checked) false ⟨#[], #[.int .u64 0, .int .u64 0, .int .u64 0], []⟩ 8 (by kernel_rfl) (by kernel_rfl) (by kernel_rfl) (by kernel_rfl)) ?_
  intro W base args ds gs before hval0 hW hcnd _
  have hval : ∀ (j : Nat) t v, Try.f3.params[j]? = some t → args[j]? = some v → Value.okWide Try.prog W .any base t v := hval0
  have hW' := hW
  obtain ⟨p, q, hA0, hV, rfl, hfz, hnd⟩ := hW
  have hA : DataW.TrodAll enc Try.prog W 0 (fun _ => true) true Try.f3.params.toList args.toList ds p := hA0
  rw [Try.params3] at hA hval
  have hAll := fun W' (hb : Below W.heap.size W W') => trodAll_below laidOut hb _ _ _ _ (by kernel_rfl) hA
  obtain ⟨v0, vs0, d0, ds0, p0, q0, hargs, rfl, rfl, h0, r0⟩ := trodAll_cons hA
  obtain ⟨v1, vs1, d1, ds1, p1, q1, rfl, rfl, rfl, h1, r1⟩ := trodAll_cons r0
  obtain ⟨v2, vs2, d2, ds2, p2, q2, rfl, rfl, rfl, h2, r2⟩ := trodAll_cons r1
  obtain ⟨rfl, rfl, rfl⟩ := trodAll_nil r2
  obtain rfl : args = #[v0, v1, v2] := by cases args; simp_all
  obtain ⟨rfl, rfl⟩ := trodVars_none hV
  obtain ⟨a0, rfl, rfl, rfl, w0⟩ := open_int Try.underlying22 (hval 0 22 v0 rfl rfl) h0
  obtain ⟨a1, rfl, rfl, rfl, w1⟩ := open_int Try.underlying22 (hval 1 22 v1 rfl rfl) h1
  obtain ⟨a2, rfl, rfl, rfl, w2⟩ := open_int Try.underlying22 (hval 2 22 v2 rfl rfl) h2
  clear hA0 hval0
  refine (numbers_walk a0 a1 a2 w0 w1 w2 W).mono fun e W' ⟨he, bel⟩ => ?_
  subst he
  exact ⟨_, rfl, _, _, _, [], _, [], hW', trodAll_mk1 (shut_bool Try.underlying4 _), hAll W' bel, rfl, bel.frame _, fun h => by cases h⟩

theorem numbers_proved : Rows.MaskNumbersSaid :=
  OpenClaim.holds_of_wide 3 Try.f3 rfl rfl rfl rfl rfl rfl rfl ⟨rfl, rfl, rfl, rfl, rfl⟩ rfl rfl rfl rfl rfl (by kernel_rfl) Try.func3 (by kernel_rfl)
    (of_decide_eq_true (by kernel_rfl)) (by unfold Func.isWrapper; first | (rw [if_pos (by decide +kernel)]; kernel_rfl) | (rw [if_neg (by decide +kernel)]; exact ⟨rfl, rfl⟩))
    (fun os started H enc _ => numbers_lifted os started H enc)
end Go.Proofs.Ytgcijghhgcegcaa
