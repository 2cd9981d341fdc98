import Derived.Maps.AppendAt
import Derived.Test.YtacofgmnmofkpaaMfai
import Derived.Test.YtacofgmnmofkpaaMfac
namespace Go.Proofs.Ytacofgmnmofkpaa
set_option linter.unusedSimpArgs false
open Go.ChangeShapes Go.WideShapes Go.ChangeAt Go.RowKit Go.Pin Go.Fld
/-- the digits of 2^255 - 21, the highest first -/
def bt (j : Nat) : Int := if j = 252 ∨ j = 250 then 0 else 1
def bitsL (k : Nat) : List Int := (List.range k).map bt
theorem bitsL_succ (k : Nat) : bitsL (k + 1) = bitsL k ++ [bt k] := by simp [bitsL, List.range_succ]
@[simp] theorem bitsL_len (k : Nat) : (bitsL k).length = k := by simp [bitsL]
theorem bitsL_at (k j : Nat) (h : j < k) : (bitsL k).getD j 0 = bt j := by
  rw [List.getD_eq_getElem?_getD, List.getElem?_eq_getElem (by simpa using h)]; simp [bitsL]
/-- the number of digits -/
def bv (l : List Int) : Nat := l.foldl (fun e b => if b = 0 then 2 * e else 2 * e + 1) 0
theorem pwr_pow (n : Nat) (hn : n < P) : ∀ (l : List Int) (x e : Nat), x = n ^ e % P → l.foldl (pst n) x = n ^ (l.foldl (fun e b => if b = 0 then 2 * e else 2 * e + 1) e) % P
  | [], x, e, h => h
  | b :: l, x, e, h => by
    rw [List.foldl_cons, List.foldl_cons]
    apply pwr_pow n hn l
    unfold pst
    by_cases hb : b = 0
    · rw [if_pos hb, if_pos hb, h, ← Nat.mul_mod, ← Nat.pow_add]; congr 2; omega
    · rw [if_neg hb, if_neg hb, h, ← Nat.mul_mod (n ^ e) (n ^ e), ← Nat.pow_add, Nat.mul_mod, Nat.mod_mod, ← Nat.mul_mod, ← Nat.pow_succ]; congr 2; omega
theorem bits_val : bv (bitsL 255) = P - 2 := by decide +kernel
theorem pwr_inv (n : Nat) (hn : n < P) : pwr n (bitsL 255) = qwn n 5 := by
  rw [qwn_pow n hn, ← bits_val]
  exact pwr_pow n hn _ 1 0 (by rw [Nat.pow_zero]; decide)
def bvs (k : Nat) : List Value := (bitsL k).map (Value.int .i64)
theorem infoInt : (Try.prog.info? 3).map (fun i => (i.zero, i.size, i.bytes)) = some (some (.int .i64 0), 1, 8) := by kernel_rfl
structure IVw (N : Nat) (w : World) (a : List Int) (v : Value) (k : Nat) (wr : World) : Prop where
  old : Below N w wr
  sz : N + 2 ≤ wr.heap.size
  ha : rowI wr N a 50
  hr : rowI wr (N + 1) (List.replicate 16 0) 50
  own : wr.ownsRow (N + 2) 3 1 v k (bvs k)
theorem IVw.next {N : Nat} {w wr w1 w2 : World} {a : List Int} {v v' : Value} {k : Nat} (h : IVw N w a v k wr) (hb : Below wr.heap.size wr w1) (ho : w2.ownsRow (N + 2) 3 1 v' (k + 1) (bvs (k + 1))) (hg : w1.grownBy w2 v.ownBlock) : IVw N w a v' (k + 1) w2 := by
  have hs := h.sz
  have h1 := hb.size
  have hnb : ∀ i, i < N + 2 → some i ≠ v.ownBlock := by
    intro i hi e
    rcases h.own.2 with ⟨rfl, _⟩ | ⟨g, cap, cur, rfl, hge, _⟩
    · simp [Value.ownBlock] at e
    · have : i = g := by simpa [Value.ownBlock] using e
      omega
  have hblk : ∀ i, i < N + 2 → w2.heap[i]? = wr.heap[i]? := fun i hi => (hg.block i (by omega) (hnb i hi)).trans (hb.block i (by omega))
  exact ⟨⟨(hg.os.trans hb.os).trans h.old.os, (hg.tape.trans hb.tape).trans h.old.tape, (hg.output.trans hb.output).trans h.old.output, Nat.le_trans h.old.size (Nat.le_trans hb.size hg.size), fun i hi => (hblk i (by omega)).trans (h.old.block i hi)⟩,
    by have := hg.size; omega, (hblk N (by omega)).trans h.ha, (hblk (N + 1) (by omega)).trans h.hr, ho⟩
set_option maxRecDepth 100000 in
set_option maxHeartbeats 8000000 in
theorem rinvert_any (n : Nat) (hn : n < P) (w : World) :
    Calls Try.prog 45 #[.agg (VI .i64 (dg n))] w fun e w' => e = .returned (.agg (VI .i64 (dg (qwn n 5)))) ∧ Below w.heap.size w w' := by
  obtain ⟨i0, hi, hz0, hz1, hz2⟩ := info_parts infoInt
  have HI : Hid (Try.prog.info? 3 = some i0 ∧ i0.zero = some (.int .i64 0) ∧ i0.size = 1 ∧ i0.bytes = 8) := ⟨hi, hz0, hz1, hz2⟩
  obtain ⟨W, hW⟩ : ∃ W, (w.alloc (.cells (VI .i64 (dg n)) 50)).alloc (.cells (VI .i64 (List.replicate 16 0)) 50) = W := ⟨_, rfl⟩
  have hr : IVw w.heap.size w (dg n) (.slice none 0 0) 0 W := by
    rw [← hW]
    refine ⟨((Below.refl _ _).alloc (Nat.le_refl _) _).alloc (by simp) _, by simp [size_alloc], ?_, ?_, World.ownsRow_nil _ _ _ _⟩
    all_goals simp only [rowI, heap_alloc_any, size_alloc]
    · rw [if_neg (by omega), if_pos trivial]
    · rw [if_pos trivial]
  have hW' : (w.alloc (.cells (VI .i64 (dg n)) 50)).alloc (.cells #[.int .i64 0, .int .i64 0, .int .i64 0, .int .i64 0, .int .i64 0, .int .i64 0, .int .i64 0, .int .i64 0, .int .i64 0, .int .i64 0, .int .i64 0, .int .i64 0, .int .i64 0, .int .i64 0, .int .i64 0, .int .i64 0] 50) = W := hW
  have HR : Hid (IVw w.heap.size w (dg n) (.slice none 0 0) 0 W) := hr
  have HN : Hid (n < P) := hn
  clear hr hW hn hi hz0 hz1 hz2
  go_enter Try.func45, Try.ntmps45
  go_wp2
  go_loopw [3, 4] (fun v i w' => ∃ k : Nat, k ≤ 255 ∧ i = .int .i64 (254 - (k : Int)) ∧ IVw w.heap.size w (dg n) v k w') (fun _ i _ => (intOf i + 1).toNat)
  case atStart => exact ⟨0, Nat.zero_le _, rfl, HR.out⟩
  case round =>
    clear HR hW'
    obtain ⟨k, hk, rfl, hp⟩ := hrel
    have HP : Hid (IVw w.heap.size w (dg n) u3 k wr) := hp
    clear hp
    by_cases hlt : k < 255
    · obtain ⟨i, hi⟩ : ∃ i : Int, 254 - (k : Int) = i := ⟨_, rfl⟩
      rw [hi]
      have hi0 : 0 ≤ i := by omega
      have hi1 : i ≤ 254 := by omega
      have HII : Hid ((k : Int) = 254 - i) := by
        have : (k : Int) = 254 - i := by omega
        exact this
      by_cases h2 : i = 2
      · subst h2
        have hk2 : k = 252 := by omega
        have hbt : bvs (k + 1) = bvs k ++ [.int .i64 0] := by rw [bvs, bitsL_succ, List.map_append]; simp [bvs, bt]; omega
        clear hk2
        go_wp2_with (at_builtin; refine wpList_append_own_at _ rfl _ _ 112 rfl (w.heap.size + 2) 3 i0 (.int .i64 0) 1 8 Try.underlying112 HI.out.1 HI.out.2.1 HI.out.2.2.1 HI.out.2.2.2 rfl (by decide) _ k (bvs k) rfl (HP.out.own.alloc _) ⟨wr.heap.size, 0, none⟩ 1 1 [.int .i64 0] rfl rfl ?_ ?_ ?_ ?_ ?_ ?_)
        · intro j u hj
          match j, hj with
          | 0, hj => simp at hj; subst hj; simp [Addr.add]
        · intro u hu
          simp at hu
          subst hu; rfl
        · unfold maxLen; omega
        · omega
        · have := HP.out.sz
          simp; omega
        · intro v' w1 hown' hgrow _ _
          have HNX : Hid (IVw w.heap.size w (dg n) v' (k + 1) w1) := HP.out.next ((Below.refl _ _).alloc (Nat.le_refl _) _) (by rw [hbt]; exact hown') hgrow
          clear hown' hgrow hbt
          go_wp2
          go_roundw
          case rel => exact ⟨k + 1, by omega, by have h9 := HII.out; exact congrArg _ (by omega), HNX.out⟩
          case measure => first | (simp [intOf]; done) | (simp [intOf]; omega)

      · by_cases h4 : i = 4
        · subst h4
          have hk4 : k = 250 := by omega
          have hbt : bvs (k + 1) = bvs k ++ [.int .i64 0] := by rw [bvs, bitsL_succ, List.map_append]; simp [bvs, bt]; omega
          clear hk4
          go_wp2_with (at_builtin; refine wpList_append_own_at _ rfl _ _ 112 rfl (w.heap.size + 2) 3 i0 (.int .i64 0) 1 8 Try.underlying112 HI.out.1 HI.out.2.1 HI.out.2.2.1 HI.out.2.2.2 rfl (by decide) _ k (bvs k) rfl (HP.out.own.alloc _) ⟨wr.heap.size, 0, none⟩ 1 1 [.int .i64 0] rfl rfl ?_ ?_ ?_ ?_ ?_ ?_)
          · intro j u hj
            match j, hj with
            | 0, hj => simp at hj; subst hj; simp [Addr.add]
          · intro u hu
            simp at hu
            subst hu; rfl
          · unfold maxLen; omega
          · omega
          · have := HP.out.sz
            simp; omega
          · intro v' w1 hown' hgrow _ _
            have HNX : Hid (IVw w.heap.size w (dg n) v' (k + 1) w1) := HP.out.next ((Below.refl _ _).alloc (Nat.le_refl _) _) (by rw [hbt]; exact hown') hgrow
            clear hown' hgrow hbt
            go_wp2
            go_roundw
            case rel => exact ⟨k + 1, by omega, by have h9 := HII.out; exact congrArg _ (by omega), HNX.out⟩
            case measure => first | (simp [intOf]; done) | (simp [intOf]; omega)

        · have hb2 : (i == 2) = false := by simpa using h2
          have hb4 : (i == 4) = false := by simpa using h4
          have hk5 : k ≠ 252 ∧ k ≠ 250 := by omega
          have hbt : bvs (k + 1) = bvs k ++ [.int .i64 1] := by rw [bvs, bitsL_succ, List.map_append]; simp [bvs, bt]; omega
          clear hk5
          go_wp2_with (at_builtin; refine wpList_append_own_at _ rfl _ _ 112 rfl (w.heap.size + 2) 3 i0 (.int .i64 0) 1 8 Try.underlying112 HI.out.1 HI.out.2.1 HI.out.2.2.1 HI.out.2.2.2 rfl (by decide) _ k (bvs k) rfl (HP.out.own.alloc _) ⟨wr.heap.size, 0, none⟩ 1 1 [.int .i64 1] rfl rfl ?_ ?_ ?_ ?_ ?_ ?_)
          · intro j u hj
            match j, hj with
            | 0, hj => simp at hj; subst hj; simp [Addr.add]
          · intro u hu
            simp at hu
            subst hu; rfl
          · unfold maxLen; omega
          · omega
          · have := HP.out.sz
            simp; omega
          · intro v' w1 hown' hgrow _ _
            have HNX : Hid (IVw w.heap.size w (dg n) v' (k + 1) w1) := HP.out.next ((Below.refl _ _).alloc (Nat.le_refl _) _) (by rw [hbt]; exact hown') hgrow
            clear hown' hgrow hbt
            go_wp2
            go_roundw
            case rel => exact ⟨k + 1, by omega, by have h9 := HII.out; exact congrArg _ (by omega), HNX.out⟩
            case measure => first | (simp [intOf]; done) | (simp [intOf]; omega)

    · have hk' : k = 255 := by omega
      subst hk'
      obtain ⟨g, cap, hv, hgl⟩ : ∃ g cap, u3 = .slice (some ⟨g, 0, none⟩) 255 cap ∧ g < wr.heap.size := by
        rcases HP.out.own.2 with ⟨_, h0⟩ | ⟨g, cap, cur, e, _, hg, _⟩
        · omega
        · exact ⟨g, cap, e, (Array.getElem?_eq_some_iff.1 hg).1⟩
      subst hv
      have hcl : ∀ j, j < 255 → wr.cell? ⟨g, j, none⟩ = some (.int .i64 ((bitsL 255).getD j 0)) := fun j hj => by
        have := HP.out.own.cells (g := g) rfl j (.int .i64 ((bitsL 255).getD j 0)) (by
          rw [bvs, List.getElem?_map, bitsL_at 255 j hj, List.getElem?_eq_getElem (by simpa using hj)]
          simp [bitsL])
        rw [add_mid, Nat.zero_add] at this
        exact this
      have CP : Hid (Calls Try.prog 61 #[.agg (VI .i64 (dg n)), .slice (some ⟨g, 0, none⟩) 255 cap] wr fun e w' => e = .returned (.agg (VI .i64 (dg (qwn n 5)))) ∧ Below wr.heap.size wr w') := by
        have := rpower_any n HN.out (bitsL 255) (by simp) g cap wr hgl (by rw [bitsL_len]; exact hcl)
        rw [bitsL_len, pwr_inv n HN.out] at this
        exact this
      have hrl : (dg (qwn n 5)).length = 16 := dg_len _
      generalize hres : dg (qwn n 5) = res at *
      have HRES : Hid (dg (qwn n 5) = res) := hres
      have HRL : Hid (res.length = 16) := hrl
      clear hres hrl hcl
      go_wp2_with (first | (go_at_call 61; refine CP.out.mono ?_; rintro e w4 ⟨rfl, hb4⟩; have HO4 : Hid (Below w.heap.size w w4) := HP.out.old.trans (hb4.mono HP.out.old.size); have HR4 : Hid (rowI w4 (w.heap.size + 1) (List.replicate 16 0) 50) := (hb4.block _ (by have := HP.out.sz; omega)).trans HP.out.hr; clear hb4) | (with_reducible refine at_list ?_; first | (refine wpList_load_row rfl 50 (.tmp 1) rfl w.heap.size rfl 50 (VI .i64 (dg n)) (0, 0) _ HP.out.ha Try.underlying50 rfl (infoN16 (dg_len n)) ?_) | (refine wpList_store_row rfl 50 (.tmp 2) (.tmp 22) rfl (w.heap.size + 1) (VI .i64 res) rfl rfl 50 (VI .i64 (List.replicate 16 0)) HR4.out (infoN16 HRL.out) (sz16 (by simp) HRL.out) (VI_one _ _) ?_)))
      refine bodyPost_ret (v := .agg (VI .i64 res)) ?_ rfl ⟨by first | rfl | rw [HRES.out], below_setRow HO4.out _ (by omega) _⟩
      exact results_cell_row (P := Try.prog) (fn := Try.f45) (p := 2) (ty := 50) rfl _ _ (w.heap.size + 1) 50 (VI .i64 res) (0, 0) _ rfl (setRow_heap _ _ _ _ 50 _ HR4.out) Try.underlying50 rfl (infoN16 HRL.out)
end Go.Proofs.Ytacofgmnmofkpaa
namespace Go.Proofs.Ytacofgmnmofkpaa
set_option linter.unusedSimpArgs false
open Go.ChangeShapes Go.WideShapes Go.ChangeAt Go.RowKit Go.Pin
/-- the events from number n on -/
def beh (l : List (Int × Int)) (n : Int) : List (Int × Int) := l.drop n.toNat
set_option maxRecDepth 100000 in
theorem logged_any (v vs : Value) (l : List (Int × Int)) (w : World) (h : RecO w v vs l) :
    Calls Try.prog 52 #[v] w fun e w' => e = .returned vs ∧ w' = w := by
  rcases h with ⟨rfl, rfl, rfl⟩ | ⟨B, R, rfl, h⟩
  · go_enter Try.func52, Try.ntmps52
    go_wp2
    go_ret
    exact ⟨rfl, rfl⟩
  · have hc0 := h.cell0
    clear h
    go_enter Try.func52, Try.ntmps52
    go_wp2
    go_ret
    exact ⟨rfl, rfl⟩
end Go.Proofs.Ytacofgmnmofkpaa
