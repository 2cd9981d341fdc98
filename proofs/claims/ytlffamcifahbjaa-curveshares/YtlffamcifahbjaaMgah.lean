import Derived.Test.YtlffamcifahbjaaMgag
namespace Go.Proofs.Ytlffamcifahbjaa
set_option linter.unusedSimpArgs false
open Go.ChangeShapes Go.WideShapes Go.ChangeAt Go.RowKit Go.Pin Go.Fld
/-- 32 bytes -/
structure Key32 (b : List Int) : Prop where
  len : b.length = 32
  bd : ∀ x ∈ b, 0 ≤ x ∧ x < 256
theorem Key32.info {b : List Int} (h : Key32 b) : (Try.prog.info? 23).map (·.size) = some (VI .u8 b).size := by rw [VI_size, h.len]; exact info40
/-- Decode's boxes -/
structure DW (n : Nat) (w : World) (L : List Int) (wr : World) : Prop where
  old : Below n w wr
  sz : n + 3 ≤ wr.heap.size
  hr : rowAt wr (n + 1) (List.replicate 5 0) 51
  hl : rowAt wr (n + 2) L 77
theorem DW.set {n : Nat} {w wr : World} {L : List Int} (h : DW n w L wr) (i : Nat) (v : Int) : DW n w (L.set i v) (wr.setCell ⟨n + 2, i, none⟩ (.int .u64 v)) :=
  ⟨h.old.setCell (by simp) _, by simpa using h.sz, row_other h.hr (by simp) _, row_set h.hl _ _⟩
theorem DW.below {n : Nat} {w wr w' : World} {L : List Int} (h : DW n w L wr) (hb : Below (n + 3) wr w') : DW n w L w' :=
  ⟨h.old.trans (hb.mono (by omega)), Nat.le_trans h.sz hb.size, (hb.block _ (by omega)).trans h.hr, (hb.block _ (by omega)).trans h.hl⟩
theorem DW.drew {n : Nat} {w wr : World} {L : List Int} (h : DW n w L wr) : DW n w L wr.drew := ⟨h.old.drew, h.sz, h.hr, h.hl⟩
theorem dw_start (w : World) (b : List Int) : DW w.heap.size w (List.replicate 6 0) (((w.alloc (.cells (VI .u8 b) 23)).alloc (.cells (VI .u64 (List.replicate 5 0)) 51)).alloc (.cells (VI .u64 (List.replicate 6 0)) 77)) ∧
    rowB (((w.alloc (.cells (VI .u8 b) 23)).alloc (.cells (VI .u64 (List.replicate 5 0)) 51)).alloc (.cells (VI .u64 (List.replicate 6 0)) 77)) w.heap.size b 23 := by
  refine ⟨⟨(((Below.refl _ _).alloc (Nat.le_refl _) _).alloc (by simp) _).alloc (by simp; omega) _, by simp [size_alloc], ?_, ?_⟩, ?_⟩
  all_goals simp only [rowAt, rowB, heap_alloc_any, size_alloc]
  · rw [if_neg (by omega), if_pos trivial]
  · rw [if_pos trivial]
  · rw [if_neg (by omega), if_neg (by omega), if_pos trivial]
/-- what Decode makes of bytes -/
def dec (b : List Int) : List Int := (LL (nb b)).take 5
theorem dec_lim (b : List Int) : Lim (dec b) := ⟨(LL_V _).2.2, fun x hx => by have := (LL_V (nb b)).2.1 x hx; omega⟩
theorem dec_V (b : List Int) : V (dec b) = ((nb b % 2 ^ 255 : Nat) : Int) := (LL_V _).1
set_option maxRecDepth 100000 in
set_option maxHeartbeats 4000000 in
theorem decode_any (b : List Int) (hb : Key32 b) (w : World) :
    Calls Try.prog 22 #[.agg (VI .u8 b)] w fun e w' => e = .returned (.agg (VI .u64 (dec b))) ∧ Below w.heap.size w w' := by
  have hx := fun (i : Nat) (h : i < 32) (w : World) => run_index_row (P := Try.prog) w 23 5 .u8 .i64 32 b i hb.len h Try.underlying23 Try.underlying5 size5
  obtain ⟨hdw, hrb⟩ := dw_start w b
  obtain ⟨W, hW⟩ : ∃ W, ((w.alloc (.cells (VI .u8 b) 23)).alloc (.cells (VI .u64 (List.replicate 5 0)) 51)).alloc (.cells (VI .u64 (List.replicate 6 0)) 77) = W := ⟨_, rfl⟩
  have hW' : ((w.alloc (.cells (VI .u8 b) 23)).alloc (.cells #[.int .u64 0, .int .u64 0, .int .u64 0, .int .u64 0, .int .u64 0] 51)).alloc (.cells #[.int .u64 0, .int .u64 0, .int .u64 0, .int .u64 0, .int .u64 0, .int .u64 0] 77) = W := hW
  rw [hW] at hdw hrb
  have HD : Hid (DW w.heap.size w (LL (nbk b 0)) W) := by rw [show LL (nbk b 0) = List.replicate 6 0 from LL_zero]; exact hdw
  have HRB : Hid (rowB W w.heap.size b 23) := hrb
  have HB : Hid (Key32 b) := hb
  have HI : Hid ((Try.prog.info? 23).map (·.size) = some (VI .u8 b).size) := hb.info
  clear hdw hrb hW hb
  go_enter Try.func22, Try.ntmps22
  go_wp2_with (first | go_in | (with_reducible refine at_list ?_; refine wpList_load_row rfl 23 (.tmp 1) rfl w.heap.size rfl 23 (VI .u8 b) (0, 0) _ HRB.out Try.underlying23 rfl HI.out ?_))
  go_loopw [9] (fun i w' => ∃ k : Nat, k ≤ 32 ∧ i = .int .i64 k ∧ DW w.heap.size w (LL (nbk b k)) w') (fun i _ => 32 - (intOf i).toNat)
  case atStart => exact ⟨0, Nat.zero_le _, rfl, HD.out⟩
  case round =>
    clear HD HRB hW'
    obtain ⟨k, hk, rfl, hp⟩ := hrel
    by_cases hlt : k < 32
    · have hxk := hx k hlt
      have hkb : k < b.length := by rw [HB.out.len]; exact hlt
      obtain ⟨x0, x1⟩ := HB.out.bd _ (List.getElem_mem hkb)
      obtain ⟨x, hxe⟩ := Int.eq_ofNat_of_zero_le x0
      have hxd : b.getD k 0 = (x : Int) := by rw [List.getD_eq_getElem?_getD, List.getElem?_eq_getElem hkb]; exact hxe
      rw [hxe] at x1
      rw [hxd] at hxk
      have hx256 : x < 256 := by omega
      obtain ⟨q, hq⟩ : ∃ q : Nat, q = 8 * k / 51 := ⟨_, rfl⟩
      obtain ⟨r, hr⟩ : ∃ r : Nat, r = 8 * k % 51 := ⟨_, rfl⟩
      have hq' : (8 * (k : Int)) / 51 = (q : Int) := by omega
      have hr' : (8 * (k : Int)) % 51 = (r : Int) := by omega
      have hq5 : q < 5 := by omega
      have hq5' : (q : Int) < 5 := by omega
      have hr51 : r < 51 := by omega
      have hr51' : (r : Int) < 51 := by omega
      have hcq := row_cell hp.hl (i := q) (by rw [LL_len]; omega)
      have hcq1 := row_cell hp.hl (i := q + 1) (by rw [LL_len]; omega)
      have hfz : wr.frozen? ⟨w.heap.size + 2, q, none⟩ = false := frozen_of_row wr _ _ _ _ hp.hl
      have hfz1 : wr.frozen? ⟨w.heap.size + 2, q + 1, none⟩ = false := frozen_of_row wr _ _ _ _ hp.hl
      have hst := dec_step (nbk b k) x q r k hx256 (by omega) hr51 hq5
      have e : LL (nbk b (k + 1)) = LL (nbk b k ||| x <<< (8 * k)) := by rw [nbk, hxd]; rfl
      have HST : Hid (∀ W1, DW w.heap.size w (LL (nbk b k)) W1 → DW w.heap.size w (LL (nbk b (k + 1))) ((W1.setCell ⟨w.heap.size + 2, q, none⟩ (.int .u64 (bits .or .u64 ((LL (nbk b k)).getD q 0) (bits .and .u64 (IntKind.u64.wrap ((x : Int) * 2 ^ r)) 2251799813685247)))).drew.setCell ⟨w.heap.size + 2, q + 1, none⟩ (.int .u64 (bits .or .u64 ((LL (nbk b k)).getD (q + 1) 0) ((x : Int) / 2 ^ (51 - r)))))) := fun W1 h1 => by
        rw [e, ← hst]
        exact ((h1.set _ _).drew).set _ _
      have HP : Hid (DW w.heap.size w (LL (nbk b k)) wr) := hp
      clear hp hst e hx hxe hxd hq hr x0
      generalize (LL (nbk b k)).getD q 0 = u at *
      generalize (LL (nbk b k)).getD (q + 1) 0 = v at *
      go_wp2
      go_region
      go_wp2
      go_region
      go_wp2
      go_roundw
      case rel => exact ⟨k + 1, by omega, by go_num, (HST.out _ HP.out).drew⟩
      case measure => simp [intOf]; omega
    · have hk' : k = 32 := by omega
      subst hk'
      have HP : Hid (DW w.heap.size w (LL (nb b)) wr) := hp
      obtain ⟨Ck, hCk⟩ : ∃ Ck, wr.heap.size = Ck := ⟨_, rfl⟩
      have hC3 : w.heap.size + 3 ≤ Ck := by rw [← hCk]; exact hp.sz
      have hp2 : DW w.heap.size w (LL (nb b)) (wr.alloc (.cells (VI .u64 (List.replicate 5 0)) 51)) ∧ rowAt (wr.alloc (.cells (VI .u64 (List.replicate 5 0)) 51)) Ck (List.replicate 5 0) 51 := by
        refine ⟨HP.out.below ((Below.refl _ _).alloc HP.out.sz _), ?_⟩
        simp only [rowAt, heap_alloc_any, hCk, if_true]
      have HP2 : Hid (DW w.heap.size w (LL (nb b)) (wr.alloc (.cells (VI .u64 (List.replicate 5 0)) 51)) ∧ rowAt (wr.alloc (.cells (VI .u64 (List.replicate 5 0)) 51)) Ck (List.replicate 5 0) 51) := hp2
      clear hp hp2 hx hlt hk HP
      rw [show ((32 : Nat) : Int) = 32 from rfl]
      go_wp2
      go_loopw [43] (fun i w' => ∃ k : Nat, k ≤ 5 ∧ i = .int .i64 k ∧ DW w.heap.size w (LL (nb b)) w' ∧ rowAt w' Ck ((dec b).take k ++ (List.replicate 5 (0 : Int)).drop k) 51) (fun i _ => 5 - (intOf i).toNat)
      case atStart => exact ⟨0, Nat.zero_le _, rfl, HP2.out⟩
      case round =>
        clear HP2 hCk
        obtain ⟨k, hk, rfl, hp, hpC⟩ := hrel
        by_cases hlt : k < 5
        · have hk5 : k < (dec b).length := by rw [(dec_lim b).len]; exact hlt
          have hcl := row_cell hp.hl (i := k) (by rw [LL_len]; omega)
          rw [show (LL (nb b)).getD k 0 = (dec b)[k] by
            rw [List.getD_eq_getElem?_getD, List.getElem?_eq_getElem (by rw [LL_len]; omega)]; simp [dec]] at hcl
          have hcc := row_cell hpC (i := k) (by simp [(dec_lim b).len]; omega)
          have hfz : wr.frozen? ⟨Ck, k, none⟩ = false := frozen_of_row wr _ _ _ _ hpC
          have hst := row_set hpC k (dec b)[k]
          rw [set_step _ _ _ hk5 (by simpa using hlt)] at hst
          have HST : Hid (rowAt (wr.setCell ⟨Ck, k, none⟩ (.int .u64 (dec b)[k])) Ck ((dec b).take (k + 1) ++ (List.replicate 5 (0 : Int)).drop (k + 1)) 51) := hst
          have HSE : Hid (∀ v, DW w.heap.size w (LL (nb b)) (wr.setCell ⟨Ck, k, none⟩ v)) := fun v => hp.below ((Below.refl _ _).setCell hC3 _)
          clear hp hpC hst
          generalize (dec b)[k] = y at *
          generalize List.getD _ k 0 = z at hcc
          go_wp2
          go_roundw
          case rel => exact ⟨k + 1, by omega, by go_num, HSE.out _, HST.out⟩
          case measure => simp [intOf]; omega
        · have hk' : k = 5 := by omega
          subst hk'
          rw [List.take_of_length_le (by rw [(dec_lim b).len]; omega), List.drop_of_length_le (by simp), List.append_nil] at hpC
          obtain ⟨x0, x1, x2, x3, x4, hxe, hx0, hx1, hx2, hx3, hx4, _, _, _, _, _⟩ := row5 hpC (dec_lim b).len
          obtain ⟨_, _, _, _, _, _, hy0, hy1, hy2, hy3, hy4, hz0, hz1, hz2, hz3, hz4⟩ := row5 hp.hr (by simp)
          have HP : Hid (DW w.heap.size w (LL (nb b)) wr) := hp
          clear hp hpC hlt hk
          go_wp2
          refine bodyPost_ret (v := .agg (VI .u64 [x0, x1, x2, x3, x4])) ?_ rfl ⟨by rw [hxe.out], ((((HP.out.old.setCell (by simp) _).setCell (by simp) _).setCell (by simp) _).setCell (by simp) _).setCell (by simp) _⟩
          exact results_cell_row (P := Try.prog) (fn := Try.f22) (p := 2) (ty := 51) rfl _ _ (w.heap.size + 1) 51 (VI .u64 [x0, x1, x2, x3, x4]) (0, 0) _ rfl (store5 HP.out.hr x0 x1 x2 x3 x4) Try.underlying51 rfl infoE
end Go.Proofs.Ytlffamcifahbjaa
namespace Go.Proofs.Ytlffamcifahbjaa
set_option linter.unusedSimpArgs false
open Go.ChangeShapes Go.WideShapes Go.ChangeAt Go.RowKit Go.Pin Go.Fld
/-- all but the cells S is as it lay -/
structure CW (S : Nat → Nat → Prop) (w w' : World) : Prop where
  os : w'.os = w.os
  tape : w'.tape = w.tape
  output : w'.output = w.output
  size : w'.heap.size = w.heap.size
  obj : ∀ k cs T fr, w.heap[k]? = some (.cells cs T fr) → ∃ cs', cs'.size = cs.size ∧ w'.heap[k]? = some (.cells cs' T fr) ∧ ∀ j, ¬ S k j → cs'[j]? = cs[j]?
  other : ∀ k, (∀ j, ¬ S k j) → w'.heap[k]? = w.heap[k]?
theorem CW.refl (S : Nat → Nat → Prop) (w : World) : CW S w w := ⟨rfl, rfl, rfl, rfl, fun _ cs _ _ h => ⟨cs, rfl, h, fun _ _ => rfl⟩, fun _ _ => rfl⟩
theorem CW.drew {S : Nat → Nat → Prop} {a w : World} (h : CW S a w) : CW S a w.drew := ⟨h.os, h.tape, h.output, h.size, h.obj, h.other⟩
theorem CW.setCell {S : Nat → Nat → Prop} {a w : World} (h : CW S a w) {g o : Nat} (hp : S g o) (v : Value) : CW S a (w.setCell ⟨g, o, none⟩ v) := by
  refine ⟨h.os, h.tape, h.output, by simpa using h.size, fun k cs T fr hk => ?_, fun k hk => ?_⟩
  · obtain ⟨cs', h1, h2, h3⟩ := h.obj k cs T fr hk
    by_cases e : k = g
    · subst e
      refine ⟨cs'.setIfInBounds o v, by simpa using h1, ?_, fun j hj => ?_⟩
      · simp [World.setCell, Array.getElem?_modify, h2]
      · rw [Array.getElem?_setIfInBounds_ne (fun e => hj (by rw [← e]; exact hp))]; exact h3 j hj
    · exact ⟨cs', h1, by rw [heap_setCell_other _ _ _ _ e]; exact h2, h3⟩
  · have e : k ≠ g := fun e => hk o (by rw [e]; exact hp)
    rw [heap_setCell_other _ _ _ _ e]; exact h.other k hk
theorem CW.cell {S : Nat → Nat → Prop} {w w' : World} (h : CW S w w') {k j : Nat} {v : Value} (hc : w.cell? ⟨k, j, none⟩ = some v) (hj : ¬ S k j) : w'.cell? ⟨k, j, none⟩ = some v := by
  cases ho : w.heap[k]? with
  | none => simp [World.cell?, ho] at hc
  | some o =>
    cases o with
    | cells cs T fr =>
      obtain ⟨cs', _, h2, h3⟩ := h.obj k cs T fr ho
      rw [cell_of_row _ _ _ _ _ _ ho] at hc
      rw [cell_of_row _ _ _ _ _ _ h2, h3 j hj]; exact hc
    | _ => simp [World.cell?, ho] at hc
theorem CW.row {S : Nat → Nat → Prop} {w w' : World} (h : CW S w w') {g : Nat} {T : TypeId} {a x : List Int} (ha : rowAt w g a T) (hl : x.length = a.length) (hc : ∀ j, j < a.length → w'.cell? ⟨g, j, none⟩ = some (.int .u64 (x.getD j 0))) : rowAt w' g x T := by
  obtain ⟨cs', h1, h2, _⟩ := h.obj g _ T (0, 0) ha
  unfold rowAt
  rw [h2]
  congr 2
  apply Array.ext_getElem?
  intro j
  by_cases hj : j < a.length
  · have := hc j hj
    rw [cell_of_row _ _ _ _ _ _ h2] at this
    rw [this, VI_at _ _ _ (by omega)]
  · rw [Array.getElem?_eq_none (by rw [h1, VI_size]; omega), Array.getElem?_eq_none (by rw [VI_size]; omega)]
theorem CW.frozen {S : Nat → Nat → Prop} {w w' : World} (h : CW S w w') {k j i : Nat} {v : Value} (hc : w.cell? ⟨k, j, none⟩ = some v) : w'.frozen? ⟨k, i, none⟩ = w.frozen? ⟨k, i, none⟩ := by
  cases ho : w.heap[k]? with
  | none => simp [World.cell?, ho] at hc
  | some o =>
    cases o with
    | cells cs T fr =>
      obtain ⟨cs', _, h2, h3⟩ := h.obj k cs T fr ho
      simp [World.frozen?, ho, h2]
    | _ => simp [World.cell?, ho] at hc
def spread64 (s : Int) : Int := IntKind.u64.wrap (-bits BinOp.and IntKind.u64 s 1)
theorem spread_eq (s : Int) (s0 : 0 ≤ s) (s1 : s < 18446744073709551616) : spread64 s = if s % 2 = 1 then ((BitVec.allOnes 64).toNat : Int) else ((0#64).toNat : Int) := by
  obtain ⟨z, rfl⟩ := ofBv64 s0 s1
  have hz : bits .and .u64 (z.toNat : Int) 1 = ((z.toNat % 2 : Nat) : Int) := by
    have := u64_and_nat z.toNat 1 z.isLt (by decide)
    rw [nat_mask1] at this
    exact this
  unfold spread64
  rcases Nat.mod_two_eq_zero_or_one z.toNat with h | h
  · rw [hz, h, if_neg (by omega)]; decide
  · rw [hz, h, if_pos (by omega)]; decide
theorem swx (s a b : Int) (s0 : 0 ≤ s) (s1 : s < 18446744073709551616) (a0 : 0 ≤ a) (a1 : a < 18446744073709551616) (b0 : 0 ≤ b) (b1 : b < 18446744073709551616) :
    bits .xor .u64 a (bits .and .u64 (spread64 s) (bits .xor .u64 a b)) = (if s % 2 = 1 then b else a) ∧ bits .xor .u64 b (bits .and .u64 (spread64 s) (bits .xor .u64 a b)) = (if s % 2 = 1 then a else b) := by
  obtain ⟨x, rfl⟩ := ofBv64 a0 a1
  obtain ⟨y, rfl⟩ := ofBv64 b0 b1
  rw [spread_eq s s0 s1]
  split
  · rw [xor64, and64, xor64, xor64, BitVec.allOnes_and]
    constructor
    · rw [← BitVec.xor_assoc]; simp
    · rw [BitVec.xor_comm x y, ← BitVec.xor_assoc]; simp
  · rw [xor64, and64, xor64, xor64]; simp
/-- the cells that Swap writes -/
def SS (ga oa gb ob g j : Nat) : Prop := (g = ga ∧ oa ≤ j ∧ j < oa + 5) ∨ (g = gb ∧ ob ≤ j ∧ j < ob + 5)
/-- what a round of Swap finds -/
structure SwI (ga oa gb ob : Nat) (w : World) (a b x y : List Int) (k : Nat) (wr : World) : Prop where
  cw : CW (SS ga oa gb ob) w wr
  ca : ∀ j, j < 5 → wr.cell? ⟨ga, oa + j, none⟩ = some (.int .u64 (if j < k then x.getD j 0 else a.getD j 0))
  cb : ∀ j, j < 5 → wr.cell? ⟨gb, ob + j, none⟩ = some (.int .u64 (if j < k then y.getD j 0 else b.getD j 0))
  fa : ∀ j, wr.frozen? ⟨ga, oa + j, none⟩ = false
  fb : ∀ j, wr.frozen? ⟨gb, ob + j, none⟩ = false
theorem SwI.drew {ga oa gb ob : Nat} {w wr : World} {a b x y : List Int} {k : Nat} (h : SwI ga oa gb ob w a b x y k wr) : SwI ga oa gb ob w a b x y k wr.drew := ⟨h.cw.drew, h.ca, h.cb, h.fa, h.fb⟩
theorem cell_set (w : World) (p q : Addr) (v : Value) (hq : (w.cell? q).isSome = true) : (w.setCell p v).cell? q = if q = p then some v else w.cell? q := by
  by_cases h : q = p
  · subst h
    obtain ⟨u, hu⟩ := Option.isSome_iff_exists.1 hq
    rw [if_pos rfl, World.cell?_setCell_same _ _ _ hu]
  · rw [if_neg h, World.cell?_setCell_other _ _ _ _ (fun e => h e.symm)]
theorem SwI.step {ga oa gb ob : Nat} {w wr : World} {a b x y : List Int} {k : Nat} (h : SwI ga oa gb ob w a b x y k wr) (hk : k < 5) (hd : ∀ i j, i < 5 → j < 5 → (⟨ga, oa + i, none⟩ : Addr) ≠ ⟨gb, ob + j, none⟩) :
    SwI ga oa gb ob w a b x y (k + 1) ((wr.setCell ⟨ga, oa + k, none⟩ (.int .u64 (x.getD k 0))).setCell ⟨gb, ob + k, none⟩ (.int .u64 (y.getD k 0))) := by
  refine ⟨(h.cw.setCell (.inl ⟨rfl, by omega, by omega⟩) _).setCell (.inr ⟨rfl, by omega, by omega⟩) _, fun j hj => ?_, fun j hj => ?_, fun j => ?_, fun j => ?_⟩
  · have hc := h.ca j hj
    rw [cell_set _ _ _ _ (by rw [cell_set _ _ _ _ (by rw [hc]; rfl)]; split; rfl; rw [hc]; rfl), if_neg (hd j k hj hk), cell_set _ _ _ _ (by rw [hc]; rfl)]
    by_cases e : j = k
    · subst e; rw [if_pos rfl, if_pos (by omega)]
    · rw [if_neg (by simp <;> omega), hc]
      by_cases e2 : j < k
      · rw [if_pos e2, if_pos (by omega)]
      · rw [if_neg e2, if_neg (by omega)]
  · have hc := h.cb j hj
    rw [cell_set _ _ _ _ (by rw [cell_set _ _ _ _ (by rw [hc]; rfl)]; split; rfl; rw [hc]; rfl)]
    by_cases e : j = k
    · subst e; rw [if_pos rfl, if_pos (by omega)]
    · rw [if_neg (by simp <;> omega), cell_set _ _ _ _ (by rw [hc]; rfl), if_neg (fun e => hd k j hk hj e.symm), hc]
      by_cases e2 : j < k
      · rw [if_pos e2, if_pos (by omega)]
      · rw [if_neg e2, if_neg (by omega)]
  · rw [World.frozen?_setCell, World.frozen?_setCell]; exact h.fa j
  · rw [World.frozen?_setCell, World.frozen?_setCell]; exact h.fb j
theorem SwI.step1 {ga oa : Nat} {w wr : World} {a : List Int} {k : Nat} (h : SwI ga oa ga oa w a a a a k wr) (hk : k < 5) :
    SwI ga oa ga oa w a a a a (k + 1) ((wr.setCell ⟨ga, oa + k, none⟩ (.int .u64 (a.getD k 0))).setCell ⟨ga, oa + k, none⟩ (.int .u64 (a.getD k 0))) := by
  have key : ∀ j, j < 5 → ((wr.setCell ⟨ga, oa + k, none⟩ (.int .u64 (a.getD k 0))).setCell ⟨ga, oa + k, none⟩ (.int .u64 (a.getD k 0))).cell? ⟨ga, oa + j, none⟩ = some (.int .u64 (if j < k + 1 then a.getD j 0 else a.getD j 0)) := fun j hj => by
    have hc := h.ca j hj
    rw [ite_self] at hc
    rw [ite_self, cell_set _ _ _ _ (by rw [cell_set _ _ _ _ (by rw [hc]; rfl)]; split; rfl; rw [hc]; rfl), cell_set _ _ _ _ (by rw [hc]; rfl)]
    by_cases e : j = k
    · subst e; rw [if_pos rfl]
    · rw [if_neg (by simp <;> omega), if_neg (by simp <;> omega), hc]
  exact ⟨(h.cw.setCell (.inl ⟨rfl, by omega, by omega⟩) _).setCell (.inl ⟨rfl, by omega, by omega⟩) _, key, key, fun j => by rw [World.frozen?_setCell, World.frozen?_setCell]; exact h.fa j, fun j => by rw [World.frozen?_setCell, World.frozen?_setCell]; exact h.fa j⟩
/-- a pair of lists as the bit says -/
def swp (s : Int) (a b : List Int) : List Int := if s % 2 = 1 then b else a
theorem swp_at (s : Int) (a b : List Int) (k : Nat) : (swp s a b).getD k 0 = if s % 2 = 1 then b.getD k 0 else a.getD k 0 := by unfold swp; split <;> rfl
set_option maxRecDepth 100000 in
set_option maxHeartbeats 1000000 in
theorem mswap_two (s : Int) (s0 : 0 ≤ s) (s1 : s < 18446744073709551616) (ga oa gb ob : Nat) (a b : List Int) (ha : Lim a) (hb : Lim b) (w : World) (h0 : SwI ga oa gb ob w a b (swp s a b) (swp s b a) 0 w) (hd : ∀ i j, i < 5 → j < 5 → (⟨ga, oa + i, none⟩ : Addr) ≠ ⟨gb, ob + j, none⟩) :
    Calls Try.prog 56 #[.int .u64 s, .pointer (some ⟨ga, oa, none⟩), .pointer (some ⟨gb, ob, none⟩)] w fun e w' => e = .returned (.tuple #[]) ∧ SwI ga oa gb ob w a b (swp s a b) (swp s b a) 5 w' := by
  have H0 : Hid (SwI ga oa gb ob w a b (swp s a b) (swp s b a) 0 w) := h0
  have HD : Hid (∀ i j, i < 5 → j < 5 → (⟨ga, oa + i, none⟩ : Addr) ≠ ⟨gb, ob + j, none⟩) := hd
  have HX : Hid (∀ k, k < 5 → bits .xor .u64 (a.getD k 0) (bits .and .u64 (spread64 s) (bits .xor .u64 (a.getD k 0) (b.getD k 0))) = (swp s a b).getD k 0 ∧ bits .xor .u64 (b.getD k 0) (bits .and .u64 (spread64 s) (bits .xor .u64 (a.getD k 0) (b.getD k 0))) = (swp s b a).getD k 0) := fun k hk => by
    obtain ⟨a0, a1⟩ := lim_at ha hk
    obtain ⟨b0, b1⟩ := lim_at hb hk
    rw [swp_at, swp_at]
    exact swx s _ _ s0 s1 a0 (by omega) b0 (by omega)
  clear h0 hd ha hb s0 s1
  go_enter Try.func56, Try.ntmps56
  go_wp2
  rw [show IntKind.u64.wrap (-bits BinOp.and IntKind.u64 s 1) = spread64 s from rfl]
  go_loopw [17] (fun i w' => ∃ k : Nat, k ≤ 5 ∧ i = .int .i64 k ∧ SwI ga oa gb ob w a b (swp s a b) (swp s b a) k w') (fun i _ => 5 - (intOf i).toNat)
  case atStart => exact ⟨0, Nat.zero_le _, rfl, H0.out⟩
  case round =>
    obtain ⟨k, hk, rfl, hp⟩ := hrel
    by_cases hlt : k < 5
    · have hcA := hp.ca k hlt
      have hcB := hp.cb k hlt
      rw [if_neg (by omega)] at hcA hcB
      have hfA := hp.fa k
      have hfB := hp.fb k
      have hne := HD.out k k hlt hlt
      have hne' := fun e => hne (Eq.symm e)
      obtain ⟨e1, e2⟩ := HX.out k hlt
      have HS : Hid (∀ W1, SwI ga oa gb ob w a b (swp s a b) (swp s b a) k W1 → SwI ga oa gb ob w a b (swp s a b) (swp s b a) (k + 1) ((W1.setCell ⟨ga, oa + k, none⟩ (.int .u64 ((swp s a b).getD k 0))).setCell ⟨gb, ob + k, none⟩ (.int .u64 ((swp s b a).getD k 0)))) := fun W1 h => h.step hlt HD.out
      generalize (swp s a b).getD k 0 = x at *
      generalize (swp s b a).getD k 0 = y at *
      generalize a.getD k 0 = ak at *
      generalize b.getD k 0 = bk at *
      have HP : Hid (SwI ga oa gb ob w a b (swp s a b) (swp s b a) k wr) := hp
      clear hp H0 HX HD
      go_wp2
      go_region
      go_wp2
      go_region
      go_wp2
      go_region
      go_wp2
      go_roundw
      case rel => exact ⟨k + 1, by omega, by go_num, (HS.out _ HP.out).drew.drew.drew⟩
      case measure => simp [intOf]; omega
    · have hk' : k = 5 := by omega
      subst hk'
      have HP : Hid (SwI ga oa gb ob w a b (swp s a b) (swp s b a) 5 wr) := hp
      clear hp
      go_wp2
      go_end0
      exact ⟨rfl, HP.out⟩
set_option maxRecDepth 100000 in
set_option maxHeartbeats 1000000 in
theorem mswap_one (s : Int) (s0 : 0 ≤ s) (s1 : s < 18446744073709551616) (ga oa : Nat) (a : List Int) (ha : Lim a) (w : World) (h0 : SwI ga oa ga oa w a a a a 0 w) :
    Calls Try.prog 56 #[.int .u64 s, .pointer (some ⟨ga, oa, none⟩), .pointer (some ⟨ga, oa, none⟩)] w fun e w' => e = .returned (.tuple #[]) ∧ SwI ga oa ga oa w a a a a 5 w' := by
  have H0 : Hid (SwI ga oa ga oa w a a a a 0 w) := h0
  have HX : Hid (∀ k, k < 5 → bits .xor .u64 (a.getD k 0) (bits .and .u64 (spread64 s) (bits .xor .u64 (a.getD k 0) (a.getD k 0))) = a.getD k 0) := fun k hk => by
    obtain ⟨a0, a1⟩ := lim_at ha hk
    have := (swx s (a.getD k 0) (a.getD k 0) s0 s1 a0 (by omega) a0 (by omega)).1
    rw [this, ite_self]
  clear h0 ha s0 s1
  go_enter Try.func56, Try.ntmps56
  go_wp2
  rw [show IntKind.u64.wrap (-bits BinOp.and IntKind.u64 s 1) = spread64 s from rfl]
  go_loopw [17] (fun i w' => ∃ k : Nat, k ≤ 5 ∧ i = .int .i64 k ∧ SwI ga oa ga oa w a a a a k w') (fun i _ => 5 - (intOf i).toNat)
  case atStart => exact ⟨0, Nat.zero_le _, rfl, H0.out⟩
  case round =>
    obtain ⟨k, hk, rfl, hp⟩ := hrel
    by_cases hlt : k < 5
    · have hcA := hp.ca k hlt
      rw [ite_self] at hcA
      have hfA := hp.fa k
      have e1 := HX.out k hlt
      have HS : Hid (∀ W1, SwI ga oa ga oa w a a a a k W1 → SwI ga oa ga oa w a a a a (k + 1) ((W1.setCell ⟨ga, oa + k, none⟩ (.int .u64 (a.getD k 0))).setCell ⟨ga, oa + k, none⟩ (.int .u64 (a.getD k 0)))) := fun W1 h => h.step1 hlt
      generalize a.getD k 0 = ak at *
      have HP : Hid (SwI ga oa ga oa w a a a a k wr) := hp
      clear hp H0 HX
      go_wp2
      go_region
      go_wp2
      go_region
      go_wp2
      go_region
      go_wp2
      go_roundw
      case rel => exact ⟨k + 1, by omega, by go_num, (HS.out _ HP.out).drew.drew.drew⟩
      case measure => simp [intOf]; omega
    · have hk' : k = 5 := by omega
      subst hk'
      have HP : Hid (SwI ga oa ga oa w a a a a 5 wr) := hp
      clear hp
      go_wp2
      go_end0
      exact ⟨rfl, HP.out⟩
end Go.Proofs.Ytlffamcifahbjaa
namespace Go.Proofs.Ytlffamcifahbjaa
set_option linter.unusedSimpArgs false
open Go.ChangeShapes Go.WideShapes Go.ChangeAt Go.RowKit Go.Pin Go.Fld
/-- the number of limbs -/
def num (a : List Int) : Nat := (V a % 57896044618658097711785492504343953926634992332820282019728792003956564819949).toNat
theorem num_lt (a : List Int) : num a < P := by
  have := Int.emod_lt_of_pos (V a) (show (0 : Int) < 57896044618658097711785492504343953926634992332820282019728792003956564819949 by decide)
  have h2 := Int.emod_nonneg (V a) (show (57896044618658097711785492504343953926634992332820282019728792003956564819949 : Int) ≠ 0 by decide)
  unfold num P
  omega
theorem num_cast (a : List Int) : (num a : Int) = V a % 57896044618658097711785492504343953926634992332820282019728792003956564819949 := by
  have h2 := Int.emod_nonneg (V a) (show (57896044618658097711785492504343953926634992332820282019728792003956564819949 : Int) ≠ 0 by decide)
  unfold num
  omega
theorem num_of {a : List Int} {n : Nat} (h : V a % 57896044618658097711785492504343953926634992332820282019728792003956564819949 = (n : Int) % 57896044618658097711785492504343953926634992332820282019728792003956564819949) : num a = n % P := by
  have := num_cast a
  rw [h] at this
  have h3 : ((n % P : Nat) : Int) = (n : Int) % 57896044618658097711785492504343953926634992332820282019728792003956564819949 := rfl
  omega
theorem bts_inj {n m : Nat} (hn : n < P) (hm : m < P) (h : bts n = bts m) : n = m := by
  have h1 := nb_bts n (Nat.lt_trans hn (by decide))
  have h2 := nb_bts m (Nat.lt_trans hm (by decide))
  rw [← h1, ← h2, h]
theorem bts_beq (n m : Nat) (hn : n < P) (hm : m < P) : (bts n == bts m) = decide (n = m) := by
  by_cases h : n = m
  · subst h; simp
  · have : ¬ bts n = bts m := fun e => h (bts_inj hn hm e)
    simp [h, this]
theorem enc_any (a : List Int) (ha : Lim a) (w : World) : Calls Try.prog 27 #[.agg (VI .u64 a)] w fun e w' => e = .returned (.agg (VI .u8 (bts (num a)))) ∧ Below w.heap.size w w' := encode_any a ha w
theorem fswap_nil1 (rv : Value) (s : Int) (q : Option Addr) (w : World) :
    Calls Try.prog 39 #[rv, .int .u64 s, .pointer none, .pointer q] w fun e w' => e = .returned (.tuple #[]) ∧ w' = w := by
  go_enter Try.func39, Try.ntmps39
  go_wp2
  exact bodyPost_ret (results_none rfl _ _ _) rfl ⟨rfl, rfl⟩
theorem fswap_nil2 (rv : Value) (s : Int) (q : Option Addr) (w : World) :
    Calls Try.prog 39 #[rv, .int .u64 s, .pointer q, .pointer none] w fun e w' => e = .returned (.tuple #[]) ∧ w' = w := by
  cases q
  all_goals
    go_enter Try.func39, Try.ntmps39
    go_wp2
    exact bodyPost_ret (results_none rfl _ _ _) rfl ⟨rfl, rfl⟩
theorem SwI.base {ga oa gb ob : Nat} {w wr : World} {a b x y : List Int} {k : Nat} (h : SwI ga oa gb ob w.drew a b x y k wr) : SwI ga oa gb ob w a b x y k wr :=
  ⟨⟨h.cw.os, h.cw.tape, h.cw.output, h.cw.size, h.cw.obj, h.cw.other⟩, h.ca, h.cb, h.fa, h.fb⟩
theorem SwI.both {ga oa gb ob : Nat} {w : World} {a b x y : List Int} {k : Nat} (h : SwI ga oa gb ob w a b x y k w) : SwI ga oa gb ob w.drew a b x y k w.drew :=
  ⟨CW.refl _ _, h.ca, h.cb, h.fa, h.fb⟩
/-- Swap, of two Elements or of one with itself -/
theorem mswap_any (s : Int) (s0 : 0 ≤ s) (s1 : s < 18446744073709551616) (ga oa gb ob : Nat) (a b : List Int) (ha : Lim a) (hb : Lim b) (w : World) (h0 : SwI ga oa gb ob w a b (swp s a b) (swp s b a) 0 w)
    (hd : (∀ i j, i < 5 → j < 5 → (⟨ga, oa + i, none⟩ : Addr) ≠ ⟨gb, ob + j, none⟩) ∨ (ga = gb ∧ oa = ob ∧ a = b)) :
    Calls Try.prog 56 #[.int .u64 s, .pointer (some ⟨ga, oa, none⟩), .pointer (some ⟨gb, ob, none⟩)] w fun e w' => e = .returned (.tuple #[]) ∧ SwI ga oa gb ob w a b (swp s a b) (swp s b a) 5 w' := by
  rcases hd with hd | ⟨rfl, rfl, rfl⟩
  · exact mswap_two s s0 s1 ga oa gb ob a b ha hb w h0 hd
  · have e : swp s a a = a := by unfold swp; split <;> rfl
    rw [e] at h0 ⊢
    exact mswap_one s s0 s1 ga oa a ha w h0
set_option maxRecDepth 100000 in
set_option maxHeartbeats 1000000 in
theorem fswap_any (rv : Value) (s : Int) (s0 : 0 ≤ s) (s1 : s < 18446744073709551616) (ga oa gb ob : Nat) (a b : List Int) (ha : Lim a) (hb : Lim b) (w : World) (Q : World → Prop)
    (hc : Calls Try.prog 44 #[rv, .int .i64 7] w fun e W1 => e = .returned (.tuple #[]) ∧ Q W1)
    (h0 : ∀ W1, Q W1 → SwI ga oa gb ob W1 a b (swp s a b) (swp s b a) 0 W1) (hd : (∀ i j, i < 5 → j < 5 → (⟨ga, oa + i, none⟩ : Addr) ≠ ⟨gb, ob + j, none⟩) ∨ (ga = gb ∧ oa = ob ∧ a = b)) :
    Calls Try.prog 39 #[rv, .int .u64 s, .pointer (some ⟨ga, oa, none⟩), .pointer (some ⟨gb, ob, none⟩)] w fun e w' => e = .returned (.tuple #[]) ∧ ∃ W1, Q W1 ∧ SwI ga oa gb ob W1 a b (swp s a b) (swp s b a) 5 w' := by
  have HC : Hid (Calls Try.prog 44 #[rv, .int .i64 7] w fun e W1 => e = .returned (.tuple #[]) ∧ Q W1) := hc
  have HM : Hid (∀ W1, Q W1 → Calls Try.prog 56 #[.int .u64 s, .pointer (some ⟨ga, oa, none⟩), .pointer (some ⟨gb, ob, none⟩)] W1.drew fun e w' => e = .returned (.tuple #[]) ∧ SwI ga oa gb ob W1.drew a b (swp s a b) (swp s b a) 5 w') := fun W1 hq => mswap_any s s0 s1 ga oa gb ob a b ha hb W1.drew (h0 W1 hq).both hd
  clear hc h0 hd ha hb
  go_enter Try.func39, Try.ntmps39
  go_wp2_with (go_at_call 44; refine HC.out.mono ?_; rintro e W1 ⟨rfl, hQ⟩)
  go_region_with (go_at_call 56; refine (HM.out W1 hQ).mono ?_; rintro e w2 ⟨rfl, hS⟩)
  all_goals (
    have HS : Hid (SwI ga oa gb ob W1 a b (swp s a b) (swp s b a) 5 w2) := hS.base
    clear hS
    go_wp2
    go_end0
    exact ⟨rfl, W1, hQ, HS.out⟩)
end Go.Proofs.Ytlffamcifahbjaa
namespace Go.Proofs.Ytlffamcifahbjaa
set_option linter.unusedSimpArgs false
open Go.ChangeShapes Go.WideShapes Go.ChangeAt Go.RowKit Go.Pin Go.Fld
theorem num_prod {a b : List Int} (ha : Lim a) (hb : Lim b) : num (prod a b) = num a * num b % P := by
  apply num_of
  rw [(prod_el ha hb).2, Int.natCast_mul, num_cast, num_cast, ← Int.mul_emod]
theorem V_zip (a b : List Int) (h : a.length = b.length) : V (List.zipWith (· + ·) a b) = V a + V b := by
  induction a generalizing b with
  | nil => cases b with | nil => rfl | cons _ _ => simp at h
  | cons x a ih =>
    cases b with
    | nil => simp at h
    | cons y b =>
      have := ih b (by simpa using h)
      simp only [List.zipWith_cons_cons, V_cons, this]
      omega
theorem V_zips (a b : List Int) (h : a.length = b.length) : V (List.zipWith (· - ·) a b) = V a - V b := by
  induction a generalizing b with
  | nil => cases b with | nil => rfl | cons _ _ => simp at h
  | cons x a ih =>
    cases b with
    | nil => simp at h
    | cons y b =>
      have := ih b (by simpa using h)
      simp only [List.zipWith_cons_cons, V_cons, this]
      omega
theorem add_lim {a b : List Int} (ha : Lim a) (hb : Lim b) : Lim (stl (List.zipWith (· + ·) a b)) := (stl_lim _ (zip_lim ha hb).1 (zip_lim ha hb).2).1
theorem subs_lim {a b : List Int} (ha : Lim a) (hb : Lim b) : Lim (stl (subL a b)) := (stl_lim _ (sub_lim ha hb).1 (sub_lim ha hb).2).1
theorem num_add {a b : List Int} (ha : Lim a) (hb : Lim b) : num (stl (List.zipWith (· + ·) a b)) = (num a + num b) % P := by
  apply num_of
  rw [(stl_lim _ (zip_lim ha hb).1 (zip_lim ha hb).2).2.1, V_zip _ _ (ha.len.trans hb.len.symm), Int.natCast_add, num_cast, num_cast, ← Int.add_emod]
theorem num_sub {a b : List Int} (ha : Lim a) (hb : Lim b) : num (stl (subL a b)) = (num a + (P - num b)) % P := by
  apply num_of
  have hl := num_lt b
  have e1 : V (subL a b) = V a + (V four - V b) := by
    rw [subL, V_zip _ _ (by simp [ha.len, hb.len, four]), V_zips _ _ (by simp [hb.len, four])]
  have e4 : V four = 4 * 57896044618658097711785492504343953926634992332820282019728792003956564819949 := by decide
  have ca := num_cast a
  have cb := num_cast b
  have hP : (P : Int) = 57896044618658097711785492504343953926634992332820282019728792003956564819949 := rfl
  rw [(stl_lim _ (sub_lim ha hb).1 (sub_lim ha hb).2).2.1, e1, e4, Int.natCast_add, Int.ofNat_sub (by omega), hP]
  omega
theorem num_dec (b : List Int) : num (dec b) = nb b % 2 ^ 255 % P := by
  apply num_of
  rw [dec_V]
/-- the same with numbers alone -/
def sqn (x f : Nat) : Nat := x * x % P * f % P
def pwn (a : Nat) : Nat → Nat
  | 0 => a
  | k + 1 => sqn (pwn a k) a
def fan (a k : Nat) : Nat := if k = 0 ∨ k = 2 then 1 else a
def qwn (a : Nat) : Nat → Nat
  | 0 => pwn a 249
  | k + 1 => sqn (qwn a k) (fan a k)
theorem num_sqm {x f : List Int} (hx : Lim x) (hf : Lim f) : num (sqm x f) = sqn (num x) (num f) := by
  rw [sqm, num_prod (prod_lim hx hx) hf, num_prod hx hx]; rfl
theorem num_pw {a : List Int} (h : Lim a) : ∀ k, num (pw a k) = pwn (num a) k
  | 0 => rfl
  | k + 1 => by rw [pw, num_sqm (pw_lim h k) h, num_pw h k]; rfl
theorem num_fac (a : List Int) (k : Nat) : num (fac a k) = fan (num a) k := by
  unfold fac fan
  split
  · decide
  · rfl
theorem num_qw {a : List Int} (h : Lim a) : ∀ k, num (qw a k) = qwn (num a) k
  | 0 => num_pw h 249
  | k + 1 => by rw [qw, num_sqm (qw_lim h k) (fac_lim h k), num_qw h k, num_fac]; rfl
theorem inv_two : qwn 2 5 * 20 % P = 10 := by decide +kernel
theorem num_small (n : Nat) (hn : n < 4294967296) : num [(n : Int), 0, 0, 0, 0] = n := by
  have := num_of (a := [(n : Int), 0, 0, 0, 0]) (n := n) (by simp only [V_cons, V_nil]; omega)
  rw [this]
  exact Nat.mod_eq_of_lt (Nat.lt_trans hn (by decide))
end Go.Proofs.Ytlffamcifahbjaa
