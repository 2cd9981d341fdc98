import Derived.BigQuiet
import Derived.Deep.MidRow
import Derived.Test.YtchnkpgkckadmabDoorMoaj
import Derived.Test.YtchnkpgkckadmabDoorMoag
import Derived.Test.YtchnkpgkckadmabDoorMoab
namespace Go.Proofs.YtchnkpgkckadmabDoor
set_option linter.unusedSimpArgs false
set_option linter.unusedVariables false
set_option maxRecDepth 100000
open Go.ChangeShapes Go.WideShapes Go.ChangeAt Go.RowKit Go.Pin Go.Pat Go.Deep
/-- what a side is not safe with -/
def hzs : List (Int × List Bool × List Bool) := [
  (0, [false, false, false, false, true, false, true, false, false], [false, false, false, false, false, false, true, false, false]),
  (0, [false, false, false, false, false, true, false, true, false], [false, false, false, false, false, false, false, true, false]),
  (0, [true, false, false, false, false, false, false, false, true], [false, false, false, false, false, false, false, false, true]),
  (1, [false, false, false, false, true, true, false, false, false], [false, false, false, false, false, true, false, false, false]),
  (1, [false, false, false, false, false, false, true, true, false], [false, false, false, false, false, false, false, true, false]),
  (1, [false, false, true, false, false, false, false, false, true], [false, false, false, false, false, false, false, false, true])]
def hzC (h : Int × List Bool × List Bool) : List Value := .int .i64 h.1 :: (h.2.1.map Value.bool ++ h.2.2.map Value.bool)
theorem hz_all : c_hazards = hzs.flatMap hzC := by kernel_rfl
def hzB (x : List Bool) (s : Nat) (h : Int × List Bool × List Bool) : Bool := decide (h.1 = (s : Int)) && decide (List.zipWith and x h.2.1 = h.2.2)
def sfr (x : List Bool) (s : Nat) : Bool := hzs.all fun h => !hzB x s h
theorem run_equalIn_bools {P : Program} (w : World) (d : Nat) (t e : TypeId) (n : Nat) (xs ys : List Bool) (hx : xs.length = n) (hy : ys.length = n)
    (ht : P.underlying t = some (.array n e)) (he : P.underlying e = some .bool) (hsz : ∀ w, (sizeOf e).run P w = .ok 1 w) :
    (Op.equalIn (d + 2) t (.agg (bc xs)) (.agg (bc ys))).run P w = .ok (xs == ys) w := by
  have hall : ∀ (xs ys : List Bool), xs.length = ys.length → ((List.range xs.length).all fun i => xs.getD i false == ys.getD i false) = (xs == ys) := by
    intro xs
    induction xs with
    | nil => intro ys h; cases ys with | nil => rfl | cons _ _ => simp at h
    | cons x xs ih =>
      intro ys h
      cases ys with
      | nil => simp at h
      | cons y ys =>
        have ih' := ih ys (by simpa using h)
        rw [List.length_cons, List.range_succ_eq_map, List.all_cons, List.all_map]
        simp only [List.getD_cons_zero, Function.comp_def, List.getD_cons_succ, ih']
        simp [List.cons_beq_cons]
  rw [← hall xs ys (hx.trans hy.symm), hx, List.range_eq_range', Op.equalIn]
  simp only [Sem.run_bind, run_underlying ht, Result.andThen_ok, hsz, Std.Legacy.Range.forIn_eq_forIn_range', Std.Legacy.Range.size, Nat.sub_zero, Nat.add_sub_cancel, Nat.div_one]
  have hl : ∀ i ∈ List.range' 0 n 1, i < n := fun i hi => by simpa using (List.mem_range'_1.1 hi).2
  have hat : ∀ (l : List Bool) (i : Nat), i < l.length → (bc l)[i]? = some (.bool (l.getD i false)) := fun l i hi => by simp [bc, List.getD, hi]
  generalize List.range' 0 n 1 = l at hl ⊢
  induction l with
  | nil => simp
  | cons i l ih =>
    have hi : i < n := hl i (by simp)
    have px : (part e (bc xs) (i * 1)).run P w = .ok (.bool (xs.getD i false)) w := by
      have := hat xs i (by omega)
      simp only [part, isAgg, Sem.run_bind, run_underlying he, Result.andThen_ok, Nat.mul_one, this]
      simp
    have py : (part e (bc ys) (i * 1)).run P w = .ok (.bool (ys.getD i false)) w := by
      have := hat ys i (by omega)
      simp only [part, isAgg, Sem.run_bind, run_underlying he, Result.andThen_ok, Nat.mul_one, this]
      simp
    have pe : (Op.equalIn (d + 1) e (.bool (xs.getD i false)) (.bool (ys.getD i false))).run P w = .ok (xs.getD i false == ys.getD i false) w :=
      run_equalIn_bool w d e _ _ he
    simp only [List.forIn_cons, Sem.run_bind, px, py, pe, Result.andThen_ok, List.all_cons]
    cases hb : (xs.getD i false == ys.getD i false)
    · simp
    · simp only [Bool.not_true, Bool.false_eq_true, if_false, Sem.run_pure, Result.andThen_ok, Bool.true_and]
      exact ih fun j hj => hl j (by simp [hj])
theorem eq_row {x y : List Bool} (hx : x.length = 9) (hy : y.length = 9) (w : World) : (Op.equalIn 10000 64 (.agg (bc x)) (.agg (bc y))).run Tryd.prog w = .ok (x == y) w :=
  run_equalIn_bools w 9998 64 4 9 x y hx hy Tryd.underlying64 Tryd.underlying4 (fun _ => by kernel_rfl)
theorem hz_index (i : Nat) (h : i < 6) (w : World) : (Instr.index 98 (.agg c_hazards.toArray) (.int .i64 i)).run Tryd.prog w = .ok (.agg (hzC (hzs.getD i (0, [], []))).toArray) w := by
  rcases (by omega : i = 0 ∨ i = 1 ∨ i = 2 ∨ i = 3 ∨ i = 4 ∨ i = 5) with rfl | rfl | rfl | rfl | rfl | rfl
  all_goals kernel_rfl
theorem hz_len : ∀ i, i < 6 → (hzs.getD i (0, [], [])).2.1.length = 9 ∧ (hzs.getD i (0, [], [])).2.2.length = 9 := by decide
theorem hz_take : ∀ i, i < 6 → hzs.take (i + 1) = hzs.take i ++ [hzs.getD i (0, [], [])] := by decide
theorem hz_mem : ∀ i, i < 6 → hzs.getD i (0, [], []) ∈ hzs := by decide
theorem hz_on {x : List Bool} {s i : Nat} (hi : i < 6) (h : ((hzs.take i).all fun h => !hzB x s h) = true) (g : hzB x s (hzs.getD i (0, [], [])) = false) : ((hzs.take (i + 1)).all fun h => !hzB x s h) = true := by
  rw [hz_take i hi, List.all_append, h]
  simp only [List.all_cons, List.all_nil, g]
  rfl
theorem hz_off {x : List Bool} {s i : Nat} (hi : i < 6) (g : hzB x s (hzs.getD i (0, [], [])) = true) : sfr x s = false := by
  unfold sfr
  rw [List.all_eq_false]
  exact ⟨_, hz_mem i hi, by rw [g]; simp⟩
theorem run_loadAt_row {P : Program} (w : World) (g : Nat) (t ty : TypeId) (cs : Array Value) (fr : Nat × Nat) (d : TypeDesc) (hg : w.heap[g]? = some (.cells cs t fr))
    (hu : P.underlying ty = some d) (hd : (match d with | .struct _ | .array _ _ => true | _ => false) = true) (hi : (P.info? ty).map (·.size) = some cs.size) :
    (Instr.loadAt ty (.pointer (some ⟨g, 0, none⟩))).run P w = .ok (.agg cs) w := by
  simp only [Instr.loadAt, Instr.sureAddr, Sem.run_bind, Sem.run_pure, Result.andThen_ok, run_loadVar_row w g t ty cs fr d hg hu hd hi]
theorem range_mid {w : World} {b o : Nat} {A B C : List Value} (h : w.rangeAt b o (A ++ (B ++ C))) (k : Nat) (hk : k = o + A.length) : w.rangeAt b k B := fun j v hv => by
  have hj := (List.getElem?_eq_some_iff.1 hv).1
  have := h (A.length + j) v (by rw [List.getElem?_append_right (by omega), Nat.add_sub_cancel_left, List.getElem?_append_left hj]; exact hv)
  rw [hk, Nat.add_assoc]
  exact this
theorem wpList_load_midA {P : Program} {ops : Array Oper} {rest : List Oper} {op : Oper} {a : Act} {w : World} {Q : Exit → Act → World → Prop} (hgd : op.guard = none) (ty : TypeId) (x : Operand) (ho : op.op = .load ty x)
    (b o : Nat) (hx : a.eval x = .pointer (some ⟨b, o, none⟩)) (cs : List Value) (A : Array Value) (hA : cs.toArray = A) (d : TypeDesc) (hc : w.rangeAt b o cs)
    (hu : P.underlying ty = some d) (hd : d.isRow = true) (hi : (P.info? ty).map (·.size) = some A.size)
    (h : wpList P ops Q rest (a.put op.dst (.agg A)) w) : wpList P ops Q (op :: rest) a w := by
  subst hA
  exact wpList_load_mid hgd ty x ho b o hx cs d hc hu hd (by rw [hi, List.size_toArray]) h
set_option maxHeartbeats 4000000 in
theorem rsafe_any (x : List Bool) (hx : x.length = 9) (s : Nat) (hs : s < 2) (w : World) (hT : Tabs w) :
    Calls Tryd.prog 26 #[rv x, .int .i64 s] w fun e w' => e = .returned (.bool (sfr x s)) ∧ Below w.heap.size w w' := by
  have hI : (Tryd.prog.info? 98).map (·.size) = some c_hazards.toArray.size := by kernel_rfl
  have hT7 := hT.hazards
  obtain ⟨cz, hcz⟩ : ∃ cz, c_hazards = cz := ⟨_, rfl⟩
  rw [hcz] at hI hT7
  obtain ⟨HA, hHA⟩ : ∃ HA, cz.toArray = HA := ⟨_, rfl⟩
  rw [hHA] at hI
  obtain ⟨n, hn⟩ : ∃ n, w.heap.size = n := ⟨_, rfl⟩
  obtain ⟨X, hX⟩ : ∃ X, bc x = X := ⟨_, rfl⟩
  have HT : Hid ((w.alloc (.cells X 64)).rangeAt 6 0 cz) := World.rangeAt_alloc hT7 _
  have HI : Hid _ := hI
  have HH : Hid (cz.toArray = HA) := hHA
  have HZ : Hid (c_hazards = cz) := hcz
  have HX : Hid (bc x = X) := hX
  have e : rv x = .agg X := by rw [← hX]; rfl
  rw [e]
  clear hI hHA hcz hT hT7 hs hX e
  go_enter Tryd.func26, Tryd.ntmps26
  go_upto_region 2 with (with_reducible refine at_list ?_; refine wpList_load_midA rfl 98 (.global 6) rfl 6 0 rfl cz HA HH.out _ HT.out Tryd.underlying98 rfl HI.out ?_)
  go_loopw [8] (fun v8 wr => ∃ i : Nat, i ≤ 6 ∧ v8 = .int .i64 i ∧ ((hzs.take i).all fun h => !hzB x s h) = true ∧ Below n w wr ∧ wr.heap[n]? = some (.cells X 64 (0, 0))) (fun v _ => 6 - (intOf v).toNat)
  case atStart => exact ⟨0, Nat.zero_le _, rfl, rfl, by rw [← hn]; exact (Below.refl _ _).alloc (Nat.le_refl _) _, by rw [← hn]; exact heap_alloc_new _ _⟩
  case round =>
    obtain ⟨i, hi, rfl, hall, hb, hrow⟩ := hrel
    by_cases hlt : i < 6
    · have b1 : (i : Int) < 6 := by omega
      have HB : Hid (Below n w wr) := hb
      have HR : Hid (wr.heap[n]? = some (.cells X 64 (0, 0))) := hrow
      have HL : Hid (((hzs.take i).all fun h => !hzB x s h) = true) := hall
      clear hb hrow hall
      have hix : (Instr.index 98 (.agg HA) (.int .i64 i)).run Tryd.prog wr = .ok (.agg (hzC (hzs.getD i (0, [], []))).toArray) wr := by
        rw [← HH.out, ← HZ.out]
        exact hz_index i hlt wr
      obtain ⟨lam, lln⟩ := hz_len i hlt
      obtain ⟨⟨sd, am, ln⟩, hh⟩ : ∃ h, hzs.getD i (0, [], []) = h := ⟨_, rfl⟩
      rw [hh] at hix lam lln
      obtain ⟨Y, hY⟩ : ∃ Y, (hzC (sd, am, ln)).toArray = Y := ⟨_, rfl⟩
      rw [hY] at hix
      have HY : Hid (hzs.getD i (0, [], []) = (sd, am, ln) ∧ (hzC (sd, am, ln)).toArray = Y) := ⟨hh, hY⟩
      clear hh hY
      obtain ⟨m, hm⟩ : ∃ m, wr.heap.size = m := ⟨_, rfl⟩
      have HM : Hid (wr.heap.size = m ∧ n < m) := ⟨hm, by have := (Array.getElem?_eq_some_iff.1 HR.out).1; omega⟩
      have h19 : 19 = Y.size := by rw [← HY.out.2]; simp [hzC, lam, lln]
      have hsz : (Tryd.prog.info? 97).map (·.size) = some Y.size := by rw [← h19]; kernel_rfl
      have hone : Y.all (·.oneCell') = true := by rw [← HY.out.2]; simp [hzC, Value.oneCell']
      go_wp2_with (with_reducible refine at_list ?_; refine hold_store 97 (.tmp 6) (.tmp 10) rfl ?_)
      refine store_row_new rfl 97 (.tmp 6) (.tmp 10) rfl m Y rfl hm.symm rfl 97 _ hsz h19 hone ?_
      obtain ⟨V, hV⟩ : ∃ V, wr.alloc (.cells Y 97) = V := ⟨_, rfl⟩
      have hVm : V.heap[m]? = some (.cells Y 97 (0, 0)) := by rw [← hV, ← hm]; exact heap_alloc_new _ _
      have hVn : V.heap[n]? = some (.cells X 64 (0, 0)) := by rw [← hV, heap_alloc_any, if_neg (by have := HM.out; omega)]; exact HR.out
      have hVb : Below n w V := by rw [← hV]; exact HB.out.alloc (by have := HM.out; omega) _
      have hVs : V.heap.size = m + 1 := by rw [← hV, size_alloc, hm]
      rw [hV]
      have HV : Hid (V.heap[m]? = some (.cells Y 97 (0, 0)) ∧ V.heap[n]? = some (.cells X 64 (0, 0)) ∧ Below n w V ∧ V.heap.size = m + 1) := ⟨hVm, hVn, hVb, hVs⟩
      clear hVm hVn hVb hVs hV hix hsz hone h19 hm
      obtain ⟨AM, hAM⟩ : ∃ A, bc am = A := ⟨_, rfl⟩
      obtain ⟨LN, hLN⟩ : ∃ A, bc ln = A := ⟨_, rfl⟩
      obtain ⟨ZW, hZW⟩ : ∃ A, bc (List.zipWith and x am) = A := ⟨_, rfl⟩
      have CF : ∀ y, Calls Tryd.prog 47 #[.agg X, .agg AM] y fun e w' => e = .returned (.agg ZW) ∧ Below y.heap.size y w' := fun y => by
        rw [← HX.out, ← hAM, ← hZW]
        exact within_any x am hx lam y
      have EQ : ∀ y, (Op.equalIn 10000 64 (.agg ZW) (.agg LN)).run Tryd.prog y = .ok (List.zipWith and x am == ln) y := fun y => by
        rw [← hZW, ← hLN]
        exact eq_row (by simp [hx, lam]) lln y
      have hYr : ∀ y, Below V.heap.size V y → y.cell? ⟨m, 0, none⟩ = some (.int .i64 sd) ∧ y.rangeAt m 1 (am.map Value.bool) ∧ y.rangeAt m 10 (ln.map Value.bool) ∧ y.heap[n]? = some (.cells X 64 (0, 0)) := fun y hy => by
        have h1 := (hy.block m (by rw [HV.out.2.2.2]; omega)).trans HV.out.1
        have h2 : y.rangeAt m 0 (hzC (sd, am, ln)) := range_row h1 _ HY.out.2
        have h3 : y.rangeAt m 0 ([.int .i64 sd] ++ (am.map Value.bool ++ ln.map Value.bool)) := h2
        have h4 : y.rangeAt m 0 (([.int .i64 sd] ++ am.map Value.bool) ++ (ln.map Value.bool ++ [])) := by rw [List.append_nil, List.append_assoc]; exact h3
        refine ⟨h3 0 _ rfl, range_mid h3 1 rfl, range_mid h4 10 (by simp [lam]), ?_⟩
        rw [hy.block n (by rw [HV.out.2.2.2]; have := HM.out; omega)]
        exact HV.out.2.1
      have HYR : Hid _ := hYr
      have i9 : (Tryd.prog.info? 64).map (·.size) = some 9 := by kernel_rfl
      have iX : (Tryd.prog.info? 64).map (·.size) = some X.size := by
        have e9 : X.size = 9 := by rw [← HX.out]; simp [bc, hx]
        rw [e9]
        exact i9
      have HLA : Hid (am.length = 9 ∧ ln.length = 9 ∧ bc am = AM ∧ bc ln = LN) := ⟨lam, lln, hAM, hLN⟩
      have HSX : Hid ((Tryd.prog.info? 64).map (·.size) = some 9 ∧ (Tryd.prog.info? 64).map (·.size) = some X.size) := ⟨i9, iX⟩
      clear hYr lam lln hAM hLN hZW iX i9
      go_upto_region 4 with fail
      simp only [Act.put]
      by_cases hsd : sd = (s : Int)
      · have g1 : decide (sd = (s : Int)) = true := by simp [hsd]
        have g2 : (sd == (s : Int)) = true := by simp [hsd]
        clear hsd
        refine Go.Pin.wp_region_cls (fun y => Below V.heap.size V y) (by kernel_rfl) (by kernel_rfl) ((Below.refl _ _).drew) ?_
        intro Sq fq hNq hRq hSq
        have y0 := fun x => (HYR.out _ (hRq x)).1
        have y1 := fun x => (run_loadAt_mid (P := Tryd.prog) (fq x) m 1 64 _ _ (HYR.out _ (hRq x)).2.1 Tryd.underlying64 rfl (by rw [List.length_map, HLA.out.1]; exact HSX.out.1)).trans (congrArg (fun A => Result.ok (Value.agg A) (fq x)) HLA.out.2.2.1)
        have y2 := fun x => (run_loadAt_mid (P := Tryd.prog) (fq x) m 10 64 _ _ (HYR.out _ (hRq x)).2.2.1 Tryd.underlying64 rfl (by rw [List.length_map, HLA.out.2.1]; exact HSX.out.1)).trans (congrArg (fun A => Result.ok (Value.agg A) (fq x)) HLA.out.2.2.2)
        have y3 := fun x => run_loadAt_row (P := Tryd.prog) (fq x) n 64 64 X (0, 0) _ (HYR.out _ (hRq x)).2.2.2 Tryd.underlying64 rfl HSX.out.2
        have CF := fun x => CF (fq x)
        repeat (first | (refine Go.BigFrame.wpQuiet_want (by kernel_rfl) ?_; intro Kq hKq; (first | (refine Go.Pin.quiet_load 64 (.tmp 2) rfl _ rfl (.agg X) y3 ?_) | (refine Go.Pin.quiet_load 64 (.tmp 17) rfl _ rfl (.agg AM) y1 ?_) | (refine Go.Pin.quiet_load 64 (.tmp 20) rfl _ rfl (.agg LN) y2 ?_)); refine hKq _ ?_; clear hKq Kq; simp only [Act.put, List.setIfInBounds_toArray, List.set_cons_zero, List.set_cons_succ]) | go_big_quiet_step (exact (CF _).mono (fun e w' h => ⟨h.1, hSq _ ((hRq _).trans (h.2.mono (hRq _).size))⟩)))
        refine wpQuiet_nil ?_
        intro _ hw'
        obtain ⟨xq, hw''⟩ := hw'
        subst hw''
        have HYq := hRq xq
        generalize fq xq = y at HYq ⊢
        have HYB : Hid (Below n w y ∧ y.heap[n]? = some (.cells X 64 (0, 0))) := ⟨HV.out.2.2.1.trans (HYq.mono (by rw [HV.out.2.2.2]; have := HM.out; omega)), (HYR.out y HYq).2.2.2⟩
        clear hRq hSq hNq xq fq Sq y0 y1 y2 y3 CF EQ HYq g2
        cases hz : (List.zipWith and x am == ln) with
        | true =>
          have HG : Hid (hzB x s (hzs.getD i (0, [], [])) = true) := by
            show hzB x s (hzs.getD i (0, [], [])) = true
            rw [HY.out.1]
            simp only [hzB, g1, Bool.true_and, decide_eq_true_eq]
            simpa using hz
          clear hz g1
          go_wp2
          go_ret
          exact ⟨by rw [hz_off hlt HG.out]; rfl, HYB.out.1⟩
        | false =>
          have HG : Hid (hzB x s (hzs.getD i (0, [], [])) = false) := by
            show hzB x s (hzs.getD i (0, [], [])) = false
            rw [HY.out.1]
            simp only [hzB, g1, Bool.true_and, decide_eq_false_iff_not]
            simpa using hz
          clear hz g1
          go_wp2
          exact ⟨⟨i + 1, hlt, congrArg (Value.int .i64) (by omega), hz_on hlt HL.out HG.out, HYB.out⟩, by show 6 - ((i : Int) + 1).toNat < 6 - ((i : Int)).toNat; omega⟩
      · have g1 : decide (sd = (s : Int)) = false := by simp [hsd]
        have g2 : (sd == (s : Int)) = false := by simp [hsd]
        have HG : Hid (hzB x s (hzs.getD i (0, [], [])) = false) := by
          show hzB x s (hzs.getD i (0, [], [])) = false
          rw [HY.out.1]
          simp [hzB, hsd]
        clear hsd
        refine Go.Pin.wp_region_cls (fun y => Below V.heap.size V y) (by kernel_rfl) (by kernel_rfl) ((Below.refl _ _).drew) ?_
        intro Sq fq hNq hRq hSq
        have y0 := fun x => (HYR.out _ (hRq x)).1
        repeat (go_big_quiet_step (fail))
        refine wpQuiet_nil ?_
        intro _ hw'
        obtain ⟨xq, hw''⟩ := hw'
        subst hw''
        have HYq := hRq xq
        generalize fq xq = y at HYq ⊢
        have HYB : Hid (Below n w y ∧ y.heap[n]? = some (.cells X 64 (0, 0))) := ⟨HV.out.2.2.1.trans (HYq.mono (by rw [HV.out.2.2.2]; have := HM.out; omega)), (HYR.out y HYq).2.2.2⟩
        clear hRq hSq hNq xq fq Sq y0 HYq g2 g1
        go_wp2
        exact ⟨⟨i + 1, hlt, congrArg (Value.int .i64) (by omega), hz_on hlt HL.out HG.out, HYB.out⟩, by show 6 - ((i : Int) + 1).toNat < 6 - ((i : Int)).toNat; omega⟩
    · have b1 : ¬ (i : Int) < 6 := by omega
      have HB : Hid (Below n w wr) := hb
      have e6 : i = 6 := by omega
      have HL : Hid (sfr x s = true) := by
        show sfr x s = true
        rw [e6] at hall
        exact hall
      clear hb hrow hall e6
      go_wp2
      go_ret
      exact ⟨by rw [HL.out]; rfl, HB.out⟩
end Go.Proofs.YtchnkpgkckadmabDoor
/- the program's rows beside the document's 'seen', as data -/
namespace Go.Proofs.YtchnkpgkckadmabDoor
set_option linter.unusedSimpArgs false
set_option linter.unusedVariables false
set_option maxRecDepth 100000
open Go.Pat
/-- the nine marks of what is seen -/
def nr (x : Sn) : List Bool := [B x 0, B x 2, B x 1, B x 3, B x 7, B x 8, B x 9, B x 10, B x 11]
theorem nr_len (x : Sn) : (nr x).length = 9 := rfl
theorem twelve' {x : Sn} (h : x.length = 12) : ∃ a b c d e f g i j k l m, x = [a, b, c, d, e, f, g, i, j, k, l, m] := by
  match x, h with
  | [a, b, c, d, e, f, g, i, j, k, l, m], _ => exact ⟨a, b, c, d, e, f, g, i, j, k, l, m, rfl⟩
theorem sfr_sf (x : Sn) (s : Nat) (hs : s < 2) : sfr (nr x) s = sf x s := by
  unfold nr sf
  rcases (by omega : s = 0 ∨ s = 1) with rfl | rfl
  all_goals
    generalize B x 0 = a0
    generalize B x 1 = a1
    generalize B x 2 = a2
    generalize B x 3 = a3
    generalize B x 7 = a7
    generalize B x 8 = a8
    generalize B x 9 = a9
    generalize B x 10 = a10
    generalize B x 11 = a11
    revert a0 a1 a2 a3 a7 a8 a9 a10 a11
    decide
/-- a token's mark, by its sender; whether it may stand once; what it wants -/
def lf (t : Int) (s : Nat) : Nat := if t = 1 then 2 * s else if t = 2 then 2 * s + 1 else (t + 1).toNat
def onc (t : Int) : Bool := t != 7
def wnt (t : Int) : List Bool :=
  if t = 3 then [true, false, true, false, false, false, false, false, false] else if t = 4 then [true, false, false, true, false, false, false, false, false]
  else if t = 5 then [false, true, true, false, false, false, false, false, false] else if t = 6 then [false, true, false, true, false, false, false, false, false]
  else [false, false, false, false, false, false, false, false, false]
def ofd (r : List Bool) (s : Nat) (t : Int) : Int :=
  if (onc t && r.getD (lf t s) false) = true then 10 else if decide (List.zipWith and r (wnt t) = wnt t) = false then 11 else if t = 2 ∧ sfr r s = false then 12 else 0
theorem ofd_tk (x : Sn) (hx : x.length = 12) (s : Nat) (h2 : s < 2) (t : Int) (ht : T7 t) : ofd (nr x) s t = (tk x s t).2 ∧ ((tk x s t).2 = 0 → nr (tk x s t).1 = (nr x).set (lf t s) true) := by
  have e := sfr_sf x s h2
  unfold ofd
  rw [e]
  unfold tk
  generalize sf x s = q
  clear e
  obtain ⟨a, b, c, d, e, f, g, i, j, k, l, m, rfl⟩ := twelve' hx
  clear hx
  rcases (by omega : s = 0 ∨ s = 1) with rfl | rfl
  all_goals rcases t7_cases ht with rfl | rfl | rfl | rfl | rfl | rfl | rfl
  all_goals clear h2 ht
  all_goals
    simp only [onc, wnt, lf, nr, B, hs]
    simp
  all_goals (repeat' split)
  all_goals simp_all
end Go.Proofs.YtchnkpgkckadmabDoor
