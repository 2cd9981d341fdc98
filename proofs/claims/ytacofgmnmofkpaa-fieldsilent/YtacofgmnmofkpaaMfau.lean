import Derived.Test.YtacofgmnmofkpaaChecked
import Derived.Deep.Slices
import Derived.Test.YtacofgmnmofkpaaMfal
import Derived.Test.YtacofgmnmofkpaaMfaj
import Derived.Test.YtacofgmnmofkpaaMfag
import Derived.Test.YtacofgmnmofkpaaMfat
namespace Go.Proofs.Ytacofgmnmofkpaa
set_option linter.unusedSimpArgs false
set_option linter.unusedVariables false
open Go.ChangeShapes Go.WideShapes Go.ChangeAt Go.RowKit Go.Pin Go.Fld
/-- a Recorder as New makes it -/
abbrev bxR : Obj := .cells #[.slice none 0 0, .int .i64 0] 82
theorem Ev.recOf {B : Nat} {w : World} {R : Nat} {l : List (Int × Int)} {bx : List (Nat × Obj)} {W : World} (h : Ev B w (.pointer (some ⟨R, 0, none⟩)) l bx W) : ∃ vs, Rec B W R vs l ∧ ∀ p ∈ bx, ¬ Blk R vs p.1 := by
  rcases h.rc with e | ⟨R', vs, e, h2, h3⟩
  · cases e
  · injection e with e; injection e with e; injection e with e1; subst e1
    exact ⟨vs, h2, h3⟩
theorem rec_zero {B : Nat} {W : World} {S : Nat} (hS : W.heap[S]? = some bxR) (hB : B ≤ S) : Rec B W S (.slice none 0 0) [] :=
  ⟨hB, hS, World.ownsRow_nil _ _ _ _⟩
theorem ev_switch {B : Nat} {w W : World} {S : Nat} {bx : List (Nat × Obj)} (hold : Below B w W) (hle : B ≤ W.heap.size) (hS : W.heap[S]? = some bxR) (hB : B ≤ S) (hge : ∀ p ∈ bx, B ≤ p.1) (hat : ∀ p ∈ bx, W.heap[p.1]? = some p.2) (hne : ∀ p ∈ bx, p.1 ≠ S) :
    Ev B w (.pointer (some ⟨S, 0, none⟩)) [] bx W :=
  ⟨hold, hle, hge, hat, .inr ⟨S, _, rfl, rec_zero hS hB, fun p hp hk => by
    rcases hk with hk | hk
    · exact hne p hp hk
    · cases hk⟩⟩
theorem blk_list {B : Nat} {W : World} {R : Nat} {vs : Value} {l : List (Int × Int)} (h : Rec B W R vs l) : ∃ bl : List (Nat × Obj), (∀ k, Blk R vs k → ∃ o, (k, o) ∈ bl) ∧ (∀ p ∈ bl, Blk R vs p.1 ∧ W.heap[p.1]? = some p.2) := by
  have g : ∀ k, Blk R vs k → ∃ o, W.heap[k]? = some o := fun k hk => ⟨_, Array.getElem?_eq_getElem (h.lt k hk)⟩
  obtain ⟨o1, h1⟩ := g R (.inl rfl)
  cases hv : vs.ownBlock with
  | none =>
    refine ⟨[(R, o1)], fun k hk => ?_, fun p hp => ?_⟩
    · rcases hk with rfl | hk
      · exact ⟨o1, by simp⟩
      · rw [hv] at hk; cases hk
    · simp at hp; subst hp; exact ⟨.inl rfl, h1⟩
  | some g2 =>
    obtain ⟨o2, h2⟩ := g g2 (.inr hv)
    refine ⟨[(R, o1), (g2, o2)], fun k hk => ?_, fun p hp => ?_⟩
    · rcases hk with rfl | hk
      · exact ⟨o1, by simp⟩
      · rw [hv] at hk; injection hk with hk; subst hk; exact ⟨o2, by simp⟩
    · simp at hp
      rcases hp with rfl | rfl
      · exact ⟨.inl rfl, h1⟩
      · exact ⟨.inr hv, h2⟩
/-- another Recorder's blocks were boxes -/
theorem Ev.keeps {B : Nat} {W W' : World} {rv : Value} {m l : List (Int × Int)} {bx : List (Nat × Obj)} {R : Nat} {vs : Value} (h : Ev B W rv m bx W') (hr : Rec B W R vs l) (hb : ∀ k, Blk R vs k → ∃ o, (k, o) ∈ bx ∧ W.heap[k]? = some o) : Rec B W' R vs l := by
  refine hr.grow (S := fun k => ¬ Blk R vs k) ⟨h.old.os, h.old.tape, h.old.output, h.old.size, fun k hk hn => ?_⟩ (fun k hk hn => hn hk)
  have hk' : Blk R vs k := Classical.byContradiction hn
  obtain ⟨o, h1, h2⟩ := hb k hk'
  rw [h.row h1, h2]
end Go.Proofs.Ytacofgmnmofkpaa
namespace Go.Proofs.Ytacofgmnmofkpaa
set_option linter.unusedSimpArgs false
open Go.ChangeShapes Go.WideShapes Go.ChangeAt Go.RowKit Go.Pin Go.Fld
/-- eight Elements and eight numbers of the document in a bank at g -/
structure Bank (g : Nat) (es : Nat → List Int) (ns : Nat → Nat) (w : World) : Prop where
  lt : g < w.heap.size
  e : ∀ i, i < 8 → ∀ j, j < 5 → w.cell? ⟨g, i * 5 + j, none⟩ = some (.int .u64 ((es i).getD j 0))
  n : ∀ i, i < 8 → ∀ j, j < 16 → w.cell? ⟨g, 40 + i * 16 + j, none⟩ = some (.int .i64 ((dg (ns i)).getD j 0))
  lim : ∀ i, i < 8 → Lim (es i)
  num : ∀ i, i < 8 → num (es i) = ns i
theorem Bank.below {g : Nat} {es : Nat → List Int} {ns : Nat → Nat} {w w' : World} (h : Bank g es ns w) (hb : Below w.heap.size w w') : Bank g es ns w' :=
  ⟨Nat.lt_of_lt_of_le h.lt hb.size, fun i hi j hj => (hb.cell (p := ⟨g, i * 5 + j, none⟩) h.lt).trans (h.e i hi j hj), fun i hi j hj => (hb.cell (p := ⟨g, 40 + i * 16 + j, none⟩) h.lt).trans (h.n i hi j hj), h.lim, h.num⟩
theorem quietAt_load_mid {P : Program} {C : World → Prop} {o : Oper} {a : Act} {Y : World} (ty : TypeId) (x : Operand) (ho : o.op = .load ty x) (b f : Nat) (hx : a.eval x = .pointer (some ⟨b, f, none⟩)) (cs : List Value) (d : TypeDesc) (hg : Y.rangeAt b f cs)
    (hu : P.underlying ty = some d) (hd : d.isRow = true) (hi : (P.info? ty).map (·.size) = some cs.length) : o.quietAt P a C Y (.agg cs.toArray) := by
  unfold Oper.quietAt execOp
  simp only [ho, hx, Instr.loadAt, Instr.sureAddr, Sem.run_bind, Sem.run_pure, Result.andThen_ok, run_loadVar_mid Y b f ty cs d hg hu hd hi]
  exact ⟨rfl, rfl⟩
theorem Bank.rangeE {g : Nat} {es : Nat → List Int} {ns : Nat → Nat} {w : World} (h : Bank g es ns w) {i : Nat} (hi : i < 8) : w.rangeAt g (i * 5) ((es i).map (Value.int .u64)) := by
  intro j v hv
  have hj : j < 5 := by
    have := (List.getElem?_eq_some_iff.1 hv).1
    rw [List.length_map, (h.lim i hi).len] at this
    exact this
  rw [List.getElem?_map, List.getElem?_eq_getElem (by rw [(h.lim i hi).len]; exact hj)] at hv
  rw [h.e i hi j hj, ← hv, List.getD_eq_getElem?_getD, List.getElem?_eq_getElem (by rw [(h.lim i hi).len]; exact hj)]
  rfl
theorem Bank.rangeN {g : Nat} {es : Nat → List Int} {ns : Nat → Nat} {w : World} (h : Bank g es ns w) {i : Nat} (hi : i < 8) : w.rangeAt g (40 + i * 16) ((dg (ns i)).map (Value.int .i64)) := by
  intro j v hv
  have hj : j < 16 := by
    have := (List.getElem?_eq_some_iff.1 hv).1
    simpa using this
  rw [List.getElem?_map, List.getElem?_eq_getElem (by simpa using hj)] at hv
  rw [h.n i hi j hj, ← hv, List.getD_eq_getElem?_getD, List.getElem?_eq_getElem (by simpa using hj)]
  rfl
set_option maxRecDepth 100000 in
set_option maxHeartbeats 4000000 in
theorem stands_any (g : Nat) (es : Nat → List Int) (ns : Nat → Nat) (w : World) (hbk : Bank g es ns w) :
    Calls Try.prog 16 #[.pointer (some ⟨g, 0, none⟩)] w fun e w' => e = .returned (.bool true) ∧ Below w.heap.size w w' := by
  have HB : Hid (Bank g es ns w) := hbk
  clear hbk
  go_enter Try.func16, Try.ntmps16
  go_wp2
  go_loopw [3] (fun i w' => ∃ k : Nat, k ≤ 8 ∧ i = .int .i64 k ∧ Below w.heap.size w w') (fun i _ => 8 - (intOf i).toNat)
  case atStart => exact ⟨0, Nat.zero_le _, rfl, Below.refl _ _⟩
  case round =>
    obtain ⟨k, hk, rfl, hp⟩ := hrel
    have HP : Hid (Below w.heap.size w wr) := hp
    clear hp
    by_cases hlt : k < 8
    · have HN : Hid (∀ Y, Below w.heap.size w Y → Y.rangeAt g (40 + k * 16) ((dg (ns k)).map (Value.int .i64))) := fun Y hY => (HB.out.below hY).rangeN hlt
      have HE : Hid (∀ Y, Below w.heap.size w Y → Y.rangeAt g (k * 5) ((es k).map (Value.int .u64))) := fun Y hY => (HB.out.below hY).rangeE hlt
      have HL : Hid (Lim (es k)) := HB.out.lim k hlt
      have CE : Hid (∀ w, Calls Try.prog 22 #[.agg (VI .u64 (es k))] w fun e w' => e = .returned (.agg (VI .u8 (bts (ns k)))) ∧ Below w.heap.size w w') := fun w => by
        have := enc_any (es k) (HB.out.lim k hlt) w
        rw [HB.out.num k hlt] at this
        exact this
      have CR : Hid (∀ w, Calls Try.prog 31 #[.agg (VI .i64 (dg (ns k)))] w fun e w' => e = .returned (.agg (VI .u8 (bts (ns k)))) ∧ Below w.heap.size w w') := fun w => rencode_any (ns k) w
      have hq := fun w => run_equalIn_row (P := Try.prog) w 9998 57 5 .u8 32 (bts (ns k)) (bts (ns k)) (by simp) (by simp) Try.underlying57 Try.underlying5 size5
      simp only [beq_self_eq_true] at hq
      have hk8 : (k : Int) < 8 := by omega
      generalize es k = x at *
      generalize ns k = m at *
      go_wp2
      refine wp_region_quiet_in (C := fun Y => Below w.heap.size w Y) (by kernel_rfl) (by kernel_rfl) (HP.out.drew) ?_
      refine wpQuiet_step (fun K hK => ?_)
      go_simp
      first | refine hK _ ?_ | refine ⟨_, fun _ _ => rfl, hK _ ?_⟩
      clear hK K
      refine wpQuiet_step (fun K hK => ?_)
      go_simp
      first | refine hK _ ?_ | refine ⟨_, fun _ _ => rfl, hK _ ?_⟩
      clear hK K
      refine wpQuiet_step (fun K hK => ?_)
      go_simp
      first | refine hK _ ?_ | refine ⟨_, fun _ _ => rfl, hK _ ?_⟩
      clear hK K
      refine wpQuiet_step (fun K hK => ?_)
      go_simp
      first | refine hK _ ?_ | refine ⟨_, fun _ _ => rfl, hK _ ?_⟩
      clear hK K
      refine wpQuiet_step (fun K hK => ?_)
      go_simp
      first | refine hK _ ?_ | refine ⟨_, fun _ _ => rfl, hK _ ?_⟩
      clear hK K
      refine wpQuiet_step (fun K hK => ?_)
      refine if_pos_mpr (by kernel_rfl) ⟨.agg (VI .u64 x), fun Y hY => quietAt_load_mid 47 (.tmp 12) rfl g (k * 5) rfl (x.map (Value.int .u64)) _ (HE.out Y hY) Try.underlying47 rfl (by rw [List.length_map, HL.out.len]; exact infoE), hK _ ?_⟩
      clear hK K
      try simp only [Act.put, List.setIfInBounds_toArray, List.set_cons_zero, List.set_cons_succ]
      refine wpQuiet_step (fun K hK => ?_)
      refine if_pos_mpr (by kernel_rfl) ⟨.agg (VI .u8 (bts m)), fun Y hY => ?_, hK _ ?_⟩
      · go_simp
        exact (CE.out Y).mono fun e w' hh => ⟨hh.1, hY.trans (hh.2.mono hY.size)⟩
      clear hK K
      try simp only [Act.put, List.setIfInBounds_toArray, List.set_cons_zero, List.set_cons_succ]
      refine wpQuiet_step (fun K hK => ?_)
      go_simp
      first | refine hK _ ?_ | refine ⟨_, fun _ _ => rfl, hK _ ?_⟩
      clear hK K
      refine wpQuiet_step (fun K hK => ?_)
      go_simp
      first | refine hK _ ?_ | refine ⟨_, fun _ _ => rfl, hK _ ?_⟩
      clear hK K
      refine wpQuiet_step (fun K hK => ?_)
      go_simp
      first | refine hK _ ?_ | refine ⟨_, fun _ _ => rfl, hK _ ?_⟩
      clear hK K
      refine wpQuiet_step (fun K hK => ?_)
      go_simp
      first | refine hK _ ?_ | refine ⟨_, fun _ _ => rfl, hK _ ?_⟩
      clear hK K
      refine wpQuiet_step (fun K hK => ?_)
      go_simp
      first | refine hK _ ?_ | refine ⟨_, fun _ _ => rfl, hK _ ?_⟩
      clear hK K
      refine wpQuiet_step (fun K hK => ?_)
      refine if_pos_mpr (by kernel_rfl) ⟨.agg (VI .i64 (dg m)), fun Y hY => quietAt_load_mid 50 (.tmp 19) rfl g (40 + k * 16) rfl ((dg m).map (Value.int .i64)) _ (HN.out Y hY) Try.underlying50 rfl (by rw [List.length_map, dg_len]; exact infoN), hK _ ?_⟩
      clear hK K
      try simp only [Act.put, List.setIfInBounds_toArray, List.set_cons_zero, List.set_cons_succ]
      refine wpQuiet_step (fun K hK => ?_)
      refine if_pos_mpr (by kernel_rfl) ⟨.agg (VI .u8 (bts m)), fun Y hY => ?_, hK _ ?_⟩
      · go_simp
        exact (CR.out Y).mono fun e w' hh => ⟨hh.1, hY.trans (hh.2.mono hY.size)⟩
      clear hK K
      try simp only [Act.put, List.setIfInBounds_toArray, List.set_cons_zero, List.set_cons_succ]
      refine wpQuiet_step (fun K hK => ?_)
      go_simp
      first | refine hK _ ?_ | refine ⟨_, fun _ _ => rfl, hK _ ?_⟩
      clear hK K
      refine wpQuiet_nil ?_
      intro wq hq'
      have HQ : Hid (Below w.heap.size w wq) := hq'
      clear hq'
      go_wp2
      go_roundw
      case rel => exact ⟨k + 1, by omega, by go_num, HQ.out⟩
      case measure => simp [intOf]; omega
    · have hk' : k = 8 := by omega
      subst hk'
      go_wp2
      go_ret
      exact ⟨rfl, HP.out⟩
end Go.Proofs.Ytacofgmnmofkpaa
namespace Go.Proofs.Ytacofgmnmofkpaa
set_option linter.unusedSimpArgs false
open Go.ChangeShapes Go.WideShapes Go.ChangeAt Go.RowKit Go.Pin Go.Fld
theorem own : ownKnob Try.prog.godebug = none := by kernel_rfl
theorem laidOut : laidOutB Try.prog = true := by kernel_rfl
theorem key_of {l : List Int} (hl : l.length = 32) (h : ∀ x ∈ l, (Lit.int .u8 x).wf = true) : Key32 l := ⟨hl, fun x hx => by
  have := bounds_u8 (h x hx)
  omega⟩
theorem u64_of {x : Int} (h : (Lit.int .u64 x).wf = true) : 0 ≤ x ∧ x < 18446744073709551616 := by
  have := bounds_u64 h
  omega
theorem u32_of {x : Int} (h : (Lit.int .u32 x).wf = true) : ∃ n : Nat, x = (n : Int) ∧ n < 4294967296 := by
  have := bounds_u32 h
  exact ⟨x.toNat, by omega, by omega⟩
end Go.Proofs.Ytacofgmnmofkpaa
namespace Go.Proofs.Ytacofgmnmofkpaa
set_option linter.unusedSimpArgs false
set_option linter.unusedVariables false
open Go.ChangeShapes Go.WideShapes Go.ChangeAt Go.RowKit Go.Pin Go.Fld
/-- a Step, as the document's numbers take it -/
abbrev Stp := Int × Int × Int × Int × List Int × Int × Int
def Stp.ok (q : Stp) : Prop := Key32 q.2.2.2.2.1 ∧ (0 ≤ q.2.2.2.2.2.1 ∧ q.2.2.2.2.2.1 < 4294967296) ∧ 0 ≤ q.2.2.2.2.2.2 ∧ q.2.2.2.2.2.2 < 18446744073709551616
def Stp.arr (q : Stp) : Array Value := stA q.1 q.2.1 q.2.2.1 q.2.2.2.1 q.2.2.2.2.1 q.2.2.2.2.2.1 q.2.2.2.2.2.2
def ix (n : Int) : Nat := (n % 8).toNat
theorem ix_eq (n : Int) : ((ix n : Nat) : Int) = n % 8 := by unfold ix; omega
def stN (q : Stp) (ns : Nat → Nat) : Nat → Nat :=
  let i := ix q.2.1; let k := ix q.2.2.1; let c := ix q.2.2.2.1
  if q.1 = 1 then upd ns c (nb q.2.2.2.2.1 % 2 ^ 255 % P)
  else if q.1 = 2 then upd ns c ((ns i + ns k) % P)
  else if q.1 = 3 then upd ns c ((ns i + (P - ns k)) % P)
  else if q.1 = 4 then upd ns c (ns i * ns k % P)
  else if q.1 = 5 then upd ns c (ns i * ns i % P)
  else if q.1 = 6 then upd ns c (ns i * q.2.2.2.2.2.1.toNat % P)
  else if q.1 = 7 then upd ns c (qwn (ns i) 5)
  else if q.1 = 8 then (if q.2.2.2.2.2.2 % 2 = 1 then upd (upd ns i (ns k)) k (ns i) else ns)
  else if q.1 = 10 then upd ns c 0
  else ns
def stL (K : Int) : List (Int × Int) :=
  if K = 2 then [(3, 1)] else if K = 3 then [(3, 2)] else if K = 4 then [(3, 3)] else if K = 5 then [(3, 4)] else if K = 6 then [(3, 5)] else if K = 7 then [(3, 6)] else if K = 8 then [(3, 7)] else []
theorem stL_len (K : Int) : (stL K).length ≤ 1 := by unfold stL; repeat (first | split | decide)
theorem step_any {B : Nat} {w : World} {rv : Value} {lr : List (Int × Int)} {g : Nat} {es : Nat → List Int} {ns : Nat → Nat} {vs : Value} {ll : List (Int × Int)} {bx : List (Nat × Obj)} {W : World} (q : Stp) (hq : q.ok)
    (h : SB B w rv lr g es ns vs ll bx W) (hl : lr.length ≤ 900000) (hll : ll.length ≤ 900000) (hR : ∀ j, j < 8 → num (es j) = ns j) :
    Calls Try.prog 17 #[.pointer (some ⟨g, 0, none⟩), rv, .agg q.arr] W fun e w' => e = .returned (.tuple #[]) ∧ ∃ es' vs', SB B w rv (lr ++ stL q.1) g es' (stN q ns) vs' (ll ++ stL q.1) bx w' ∧ ∀ j, j < 8 → num (es' j) = stN q ns j := by
  obtain ⟨K, A, Bv, C, D, N, T⟩ := q
  obtain ⟨hD, hN, hT⟩ := hq
  unfold Stp.arr
  simp only at hD hN hT ⊢
  by_cases hK : 1 ≤ K ∧ K ≤ 10
  · have h10 : K = 1 ∨ K = 2 ∨ K = 3 ∨ K = 4 ∨ K = 5 ∨ K = 6 ∨ K = 7 ∨ K = 8 ∨ K = 9 ∨ K = 10 := by omega
    rcases h10 with rfl | rfl | rfl | rfl | rfl | rfl | rfl | rfl | rfl | rfl
    · exact step_k1 h hl hll (ix_eq A) (ix_eq Bv) (ix_eq C) hD hN hT hR
    · exact step_k2 h hl hll (ix_eq A) (ix_eq Bv) (ix_eq C) hD hN hT hR
    · exact step_k3 h hl hll (ix_eq A) (ix_eq Bv) (ix_eq C) hD hN hT hR
    · exact step_k4 h hl hll (ix_eq A) (ix_eq Bv) (ix_eq C) hD hN hT hR
    · exact step_k5 h hl hll (ix_eq A) (ix_eq Bv) (ix_eq C) hD hN hT hR
    · exact step_k6 h hl hll (ix_eq A) (ix_eq Bv) (ix_eq C) hD hN hT hR
    · exact step_k7 h hl hll (ix_eq A) (ix_eq Bv) (ix_eq C) hD hN hT hR
    · refine step_k8 ?_ h hl hll (ix_eq A) (ix_eq Bv) (ix_eq C) hD hN hT hR
      by_cases ho : T % 2 = 1
      · exact .inl ⟨ho, by show (if T % 2 = 1 then _ else _) = _; rw [if_pos ho]⟩
      · exact .inr ⟨ho, by show (if T % 2 = 1 then _ else _) = _; rw [if_neg ho]⟩
    · exact step_k9 h hl hll (ix_eq A) (ix_eq Bv) (ix_eq C) hD hN hT hR
    · exact step_k10 h hl hll (ix_eq A) (ix_eq Bv) (ix_eq C) hD hN hT hR
  · have e1 : stL K = [] := by unfold stL; repeat (rw [if_neg (by omega)])
    have e2 : stN (K, A, Bv, C, D, N, T) ns = ns := by unfold stN; simp only; repeat (rw [if_neg (by omega)])
    rw [e1, e2]
    exact step_k0 hK h hl hll (ix_eq A) (ix_eq Bv) (ix_eq C) hD hN hT hR
/-! a new bank -/
def bankZ : Array Value := (List.replicate 40 (Value.int .u64 0) ++ (List.replicate 128 (Value.int .i64 0) ++ [Value.slice none 0 0])).toArray
theorem zero_bank (w : World) : (zeroValue 53).run Try.prog w = .ok (.agg bankZ) w := by kernel_rfl
abbrev bxB : Obj := .cells bankZ 53
theorem dg_zero : dg 0 = List.replicate 16 0 := by decide
theorem bn_new {w : World} {g : Nat} (h : w.heap[g]? = some bxB) : Bn g (fun _ => [0, 0, 0, 0, 0]) (fun _ => 0) (.slice none 0 0) w := by
  have hc : ∀ j, w.cell? ⟨g, j, none⟩ = bankZ[j]? := fun j => cell_of_row w _ _ _ _ _ h
  refine ⟨⟨_, by kernel_rfl, h⟩, fun i hi j hj => ?_, fun i hi j hj => ?_, ?_, fun _ _ => lim_small 0 (by decide) (by decide), fun _ _ => by decide⟩
  · rw [hc, bankZ, List.getElem?_toArray, List.getElem?_append_left (by simp; omega), List.getElem?_replicate, if_pos (by omega)]
    have : ([0, 0, 0, 0, 0] : List Int).getD j 0 = 0 := by
      have h5 : j = 0 ∨ j = 1 ∨ j = 2 ∨ j = 3 ∨ j = 4 := by omega
      rcases h5 with rfl | rfl | rfl | rfl | rfl <;> rfl
    rw [this]
  · rw [hc, bankZ, List.getElem?_toArray, List.getElem?_append_right (by simp; omega), List.getElem?_append_left (by simp; omega), List.getElem?_replicate, if_pos (by simp; omega), dg_zero, List.getD_eq_getElem?_getD, List.getElem?_replicate, if_pos (by omega)]
    rfl
  · rw [hc]; kernel_rfl
theorem num_zeros : ∀ i, i < 8 → num ((fun _ => [0, 0, 0, 0, 0] : Nat → List Int) i) = (fun _ => 0 : Nat → Nat) i := fun _ _ => by show num [0, 0, 0, 0, 0] = 0; decide
theorem sb_new {B : Nat} {w : World} {rv : Value} {lr : List (Int × Int)} {g : Nat} {bx : List (Nat × Obj)} {W : World} (h : Ev B w rv lr ((g, bxB) :: bx) W) (hne : ∀ p ∈ bx, p.1 ≠ g) : SB B w rv lr g (fun _ => [0, 0, 0, 0, 0]) (fun _ => 0) (.slice none 0 0) [] bx W :=
  ⟨bn_new (h.row (g := g) (x := bxB) (by simp)), World.ownsRow_nil _ _ _ _, ⟨bxB, [], fun k hk => by simp [Value.ownBlock] at hk, by simp, h⟩, fun p hp => ⟨hne p hp, by simp [Value.ownBlock]⟩⟩
theorem Bn.bank {g : Nat} {es : Nat → List Int} {ns : Nat → Nat} {vs : Value} {W : World} (h : Bn g es ns vs W) (hR : ∀ j, j < 8 → num (es j) = ns j) : Bank g es ns W := ⟨h.lt, h.e, h.n, h.lim, hR⟩
theorem SB.recr {B : Nat} {w : World} {R : Nat} {lr : List (Int × Int)} {g : Nat} {es : Nat → List Int} {ns : Nat → Nat} {vs : Value} {ll : List (Int × Int)} {bx : List (Nat × Obj)} {W : World} (h : SB B w (.pointer (some ⟨R, 0, none⟩)) lr g es ns vs ll bx W) : ∃ vr, Rec B W R vr lr := by
  obtain ⟨o, rb, _, _, he⟩ := h.ev
  obtain ⟨vr, h1, _⟩ := he.recOf
  exact ⟨vr, h1⟩
theorem SB.slice {B : Nat} {w : World} {rv : Value} {lr : List (Int × Int)} {g : Nat} {es : Nat → List Int} {ns : Nat → Nat} {vs : Value} {ll : List (Int × Int)} {bx : List (Nat × Obj)} {W : World} (h : SB B w rv lr g es ns vs ll bx W) : ∃ a c, vs = .slice a ll.length c := by
  obtain ⟨_, a, c, e, _, _⟩ := sl_of_owns h.own
  exact ⟨a, c, e⟩
end Go.Proofs.Ytacofgmnmofkpaa
namespace Go.Proofs.Ytacofgmnmofkpaa
set_option linter.unusedSimpArgs false
open Go.ChangeShapes Go.WideShapes Go.ChangeAt Go.RowKit Go.Pin Go.Fld Go.Deep
section
variable {H : Type} {enc : TypeId × Value → H} {P : Program} {w : World} {base : Nat} {spare : Nat → Bool} {held : Bool}
theorem row_of_trod {t e : TypeId} {n : Nat} {k : IntKind} {fuel : Nat} {cs : List Value} {x : DataW H × List MemPlace} (ht : P.underlying t = some (.array n e)) (he : P.underlying e = some (.int k)) (hce : P.cellsOf e = 1) (hlen : cs.length = n)
    (h : DataW.trod enc P w base spare held fuel t cs = some x) : ∃ l : List Int, cs = l.map (Value.int k) ∧ l.length = n ∧ ∀ x ∈ l, (Lit.int k x).wf = true := by
  obtain ⟨xs, m, _, _, hl, hxl, hall⟩ := DataW.trod_array ht h
  have key : ∀ i, i < n → ∃ x, cs[i]? = some (.int k x) ∧ (Lit.int k x).wf = true := by
    intro i hi
    have h1 := hall i hi
    rw [List.getElem?_eq_getElem (by omega)] at h1
    obtain ⟨x, hx, _, hw⟩ := DataW.trod_int he h1
    refine ⟨x, ?_, hw⟩
    rw [hce, Nat.mul_one] at hx
    have h3 := congrArg (fun z => z[0]?) hx
    simp at h3
    exact h3
  refine ⟨(List.range n).map (fun i : Nat => intOf (cs[i]?.getD .nilIface)), ?_, by simp, ?_⟩
  · apply List.ext_getElem?
    intro i
    by_cases hi : i < n
    · obtain ⟨x, hx, _⟩ := key i hi
      rw [hx]
      simp [hi, hx, intOf]
    · rw [List.getElem?_eq_none (by omega)]
      simp [hi]
  · intro x hx
    simp only [List.mem_map, List.mem_range] at hx
    obtain ⟨i, hi, rfl⟩ := hx
    obtain ⟨y, hy, hw⟩ := key i hi
    rw [hy]
    simpa [intOf] using hw
end
theorem cut_at {cs : List Value} (n m : Nat) : cs.drop n = (cs.drop n).take m ++ cs.drop (n + m) := by
  have := (List.take_append_drop m (cs.drop n)).symm
  rw [List.drop_drop] at this
  exact this
theorem cut7 {cs : List Value} (h : cs.length = 38) : cs = (cs.drop 0).take 1 ++ ((cs.drop 1).take 1 ++ ((cs.drop 2).take 1 ++ ((cs.drop 3).take 1 ++ ((cs.drop 4).take 32 ++ ((cs.drop 36).take 1 ++ (cs.drop 37).take 1))))) := by
  have e : (cs.drop 37).take 1 = cs.drop 37 := List.take_of_length_le (by rw [List.length_drop]; omega)
  rw [e, ← cut_at 36 1, ← cut_at 4 32, ← cut_at 3 1, ← cut_at 2 1, ← cut_at 1 1, ← cut_at 0 1]
  rfl
/-- a script -/
def Stp.cells (q : Stp) : List Value := q.arr.toList
theorem Stp.len {q : Stp} (h : q.ok) : q.cells.length = 38 := by
  have := h.1.len
  simp [Stp.cells, Stp.arr, stA, VI, this]
def Scr (W : World) (v : Value) (l : List Stp) : Prop := ∃ a c, v = .slice a l.length c ∧ l.length ≤ c ∧ (l = [] ∨ ∃ b o, a = some ⟨b, o, none⟩ ∧ b < W.heap.size ∧ ∀ i q, l[i]? = some q → W.rangeAt b (o + i * 38) q.cells ∧ q.ok)
theorem stA_list (z0 z1 z2 z3 : Int) (D : List Int) (n t : Int) : (stA z0 z1 z2 z3 D n t).toList = [.int .i64 z0] ++ ([.int .i64 z1] ++ ([.int .i64 z2] ++ ([.int .i64 z3] ++ (D.map (Value.int .u8) ++ ([.int .u32 n] ++ [.int .u64 t]))))) := by
  simp [stA, VI]
theorem open_script {H : Type} {enc : TypeId × Value → H} {W : World} {base : Nat} {spare : Nat → Bool} {held : Bool} {a : Option Addr} {len cap : Nat} {d : DataW H} {p : List MemPlace}
    (h : DataW.Trod enc Try.prog W base spare held 42 (.slice a len cap) d p) : ∃ l : List Stp, l.length = len ∧ Scr W (.slice a len cap) l := by
  have he : Try.prog.underlying 60 = _ := Try.underlying60
  obtain ⟨fuel, hf⟩ := h
  rcases open_slice Try.underlying42 hf with ⟨hcs, _⟩ | ⟨x, len', cap', m, n, D, Pl, hcs, _, hl, hm, hmm, _, hx⟩
  · simp [Value.cells] at hcs
    obtain ⟨rfl, rfl, rfl⟩ := hcs
    exact ⟨[], rfl, none, 0, rfl, Nat.le_refl _, .inl rfl⟩
  · simp [Value.cells] at hcs
    obtain ⟨rfl, rfl, rfl⟩ := hcs
    have hlm : len ≤ m := by rw [hmm]; split <;> omega
    have ce : Try.prog.cellsOf 60 = 38 := by kernel_rfl
    have ci : Try.prog.cellsOf 3 = 1 := by kernel_rfl
    have ck : Try.prog.cellsOf 57 = 32 := by kernel_rfl
    have c4 : Try.prog.cellsOf 58 = 1 := by kernel_rfl
    have c8 : Try.prog.cellsOf 44 = 1 := by kernel_rfl
    have each : ∀ i, i < len → ∃ q : Stp, (∀ j v, q.cells[j]? = some v → W.cell? (x.add (i * 38 + j)) = some v) ∧ q.ok := by
      intro i hi
      obtain ⟨cs', h1, h2⟩ := hx i (by omega)
      rw [ce] at h1
      obtain ⟨_, hlen, hcell⟩ := World.cells?_some h1
      obtain ⟨xs, k, hk, hxy, _, hxl, hf⟩ := DataW.trod_struct he h2
      match xs, hxl with
      | [y0, y1, y2, y3, y4, y5, y6], _ =>
        have g0 := hf 0 _ rfl
        have g1 := hf 1 _ rfl
        have g2 := hf 2 _ rfl
        have g3 := hf 3 _ rfl
        have g4 := hf 4 _ rfl
        have g5 := hf 5 _ rfl
        have g6 := hf 6 _ rfl
        simp only [List.getElem_toArray, List.getElem_cons_zero, List.getElem_cons_succ, ci, ck, c4, c8, List.getElem?_cons_zero, List.getElem?_cons_succ] at g0 g1 g2 g3 g4 g5 g6
        obtain ⟨z0, hz0, _⟩ := DataW.trod_int Try.underlying3 g0
        obtain ⟨z1, hz1, _⟩ := DataW.trod_int Try.underlying3 g1
        obtain ⟨z2, hz2, _⟩ := DataW.trod_int Try.underlying3 g2
        obtain ⟨z3, hz3, _⟩ := DataW.trod_int Try.underlying3 g3
        obtain ⟨low, hlow, ll, wl⟩ := row_of_trod Try.underlying57 Try.underlying5 (by kernel_rfl) (by rw [List.length_take, List.length_drop]; omega) g4
        obtain ⟨zn, hzn, _, wn⟩ := DataW.trod_int Try.underlying58 g5
        obtain ⟨zt, hzt, _, wt⟩ := DataW.trod_int Try.underlying44 g6
        have hcs : cs' = (stA z0 z1 z2 z3 low zn zt).toList := by
          have := cut7 hlen
          rw [hz0, hz1, hz2, hz3, hlow, hzn, hzt] at this
          rw [this, stA_list]
        obtain ⟨nn, en, hn⟩ := u32_of wn
        refine ⟨(z0, z1, z2, z3, low, zn, zt), fun j v hv => ?_, key_of ll wl, ⟨by show 0 ≤ zn; omega, by show zn < 4294967296; omega⟩, u64_of wt⟩
        have hj : j < cs'.length := by
          have h9 : cs'[j]? = some v := by rw [hcs]; exact hv
          exact (List.getElem?_eq_some_iff.1 h9).1
        have e := hcell j (by omega)
        rw [add_add] at e
        rw [e, ← hv]
        show cs'[j]? = (stA z0 z1 z2 z3 low zn zt).toList[j]?
        rw [hcs]
    obtain ⟨q, hq⟩ := choose_lt each
    refine ⟨(List.range len).map q, by simp, some x, cap, by simp, by simpa using hl, ?_⟩
    by_cases h0 : len = 0
    · left; subst h0; rfl
    right
    obtain ⟨b, o, s⟩ := x
    have hc0 := (hq 0 (by omega)).1 0 (.int .i64 (q 0).1) (by show (stA _ _ _ _ _ _ _).toList[0]? = _; rw [stA_list]; rfl)
    have hs : s = none := by
      rw [Nat.zero_mul] at hc0
      simpa [Addr.add] using World.cell?_spot hc0
    subst hs
    refine ⟨b, o, rfl, by
      rw [add_mid] at hc0
      exact World.block_lt_of_cell? W _ hc0, fun i q' hq' => ?_⟩
    have hi : i < len := by simpa using (List.getElem?_eq_some_iff.1 hq').1
    have e : q' = q i := by
      rw [List.getElem?_map, List.getElem?_range hi] at hq'
      simpa using hq'.symm
    subst e
    refine ⟨fun j v hv => ?_, (hq i hi).2⟩
    have := (hq i hi).1 j v hv
    rw [add_mid, ← Nat.add_assoc] at this
    exact this
end Go.Proofs.Ytacofgmnmofkpaa
