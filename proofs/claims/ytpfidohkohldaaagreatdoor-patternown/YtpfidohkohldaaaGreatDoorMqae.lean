import Derived.BigQuiet
import Derived.Deep.MidRow
import Derived.Test.YtpfidohkohldaaaGreatDoorMqad
import Derived.Test.YtpfidohkohldaaaGreatDoorMqaa
namespace Go.Proofs.YtpfidohkohldaaaGreatDoor
set_option linter.unusedSimpArgs false
set_option linter.unusedVariables false
set_option maxRecDepth 100000
open Go.ChangeShapes Go.WideShapes Go.ChangeAt Go.RowKit Go.Pin Go.Pat Go.Deep
/-- what a side is not safe with -/
def hzs : List (Int × List Bool × List Bool) := [
  (0, [false, false, false, false, true, false, true, false, false], [false, false, false, false, false, false, true, false, false]),
  (0, [false, false, false, false, false, true, false, true, false], [false, false, false, false, false, false, false, true, false]),
  (0, [true, false, false, false, false, false, false, false, true], [false, false, false, false, false, false, false, false, true]),
  (1, [false, false, false, false, true, true, false, false, false], [false, false, false, false, false, true, false, false, false]),
  (1, [false, false, false, false, false, false, true, true, false], [false, false, false, false, false, false, false, true, false]),
  (1, [false, false, true, false, false, false, false, false, true], [false, false, false, false, false, false, false, false, true])]
def hzC (h : Int × List Bool × List Bool) : List Value := .int .i64 h.1 :: (h.2.1.map Value.bool ++ h.2.2.map Value.bool)
theorem hz_all : c_hazards = hzs.flatMap hzC := by kernel_rfl
def hzB (x : List Bool) (s : Nat) (h : Int × List Bool × List Bool) : Bool := decide (h.1 = (s : Int)) && decide (List.zipWith and x h.2.1 = h.2.2)
def sfr (x : List Bool) (s : Nat) : Bool := hzs.all fun h => !hzB x s h
theorem run_equalIn_bools {P : Program} (w : World) (d : Nat) (t e : TypeId) (n : Nat) (xs ys : List Bool) (hx : xs.length = n) (hy : ys.length = n)
    (ht : P.underlying t = some (.array n e)) (he : P.underlying e = some .bool) (hsz : ∀ w, (sizeOf e).run P w = .ok 1 w) :
    (Op.equalIn (d + 2) t (.agg (bc xs)) (.agg (bc ys))).run P w = .ok (xs == ys) w := by
  have hall : ∀ (xs ys : List Bool), xs.length = ys.length → ((List.range xs.length).all fun i => xs.getD i false == ys.getD i false) = (xs == ys) := by
    intro xs
    induction xs with
    | nil => intro ys h; cases ys with | nil => rfl | cons _ _ => simp at h
    | cons x xs ih =>
      intro ys h
      cases ys with
      | nil => simp at h
      | cons y ys =>
        have ih' := ih ys (by simpa using h)
        rw [List.length_cons, List.range_succ_eq_map, List.all_cons, List.all_map]
        simp only [List.getD_cons_zero, Function.comp_def, List.getD_cons_succ, ih']
        simp [List.cons_beq_cons]
  rw [← hall xs ys (hx.trans hy.symm), hx, List.range_eq_range', Op.equalIn]
  simp only [Sem.run_bind, run_underlying ht, Result.andThen_ok, hsz, Std.Legacy.Range.forIn_eq_forIn_range', Std.Legacy.Range.size, Nat.sub_zero, Nat.add_sub_cancel, Nat.div_one]
  have hl : ∀ i ∈ List.range' 0 n 1, i < n := fun i hi => by simpa using (List.mem_range'_1.1 hi).2
  have hat : ∀ (l : List Bool) (i : Nat), i < l.length → (bc l)[i]? = some (.bool (l.getD i false)) := fun l i hi => by simp [bc, List.getD, hi]
  generalize List.range' 0 n 1 = l at hl ⊢
  induction l with
  | nil => simp
  | cons i l ih =>
    have hi : i < n := hl i (by simp)
    have px : (part e (bc xs) (i * 1)).run P w = .ok (.bool (xs.getD i false)) w := by
      have := hat xs i (by omega)
      simp only [part, isAgg, Sem.run_bind, run_underlying he, Result.andThen_ok, Nat.mul_one, this]
      simp
    have py : (part e (bc ys) (i * 1)).run P w = .ok (.bool (ys.getD i false)) w := by
      have := hat ys i (by omega)
      simp only [part, isAgg, Sem.run_bind, run_underlying he, Result.andThen_ok, Nat.mul_one, this]
      simp
    have pe : (Op.equalIn (d + 1) e (.bool (xs.getD i false)) (.bool (ys.getD i false))).run P w = .ok (xs.getD i false == ys.getD i false) w :=
      run_equalIn_bool w d e _ _ he
    simp only [List.forIn_cons, Sem.run_bind, px, py, pe, Result.andThen_ok, List.all_cons]
    cases hb : (xs.getD i false == ys.getD i false)
    · simp
    · simp only [Bool.not_true, Bool.false_eq_true, if_false, Sem.run_pure, Result.andThen_ok, Bool.true_and]
      exact ih fun j hj => hl j (by simp [hj])
theorem eq_row {x y : List Bool} (hx : x.length = 9) (hy : y.length = 9) (w : World) : (Op.equalIn 10000 80 (.agg (bc x)) (.agg (bc y))).run Tryz.prog w = .ok (x == y) w :=
  run_equalIn_bools w 9998 80 4 9 x y hx hy Tryz.underlying80 Tryz.underlying4 (fun _ => by kernel_rfl)
theorem hz_index (i : Nat) (h : i < 6) (w : World) : (Instr.index 116 (.agg c_hazards.toArray) (.int .i64 i)).run Tryz.prog w = .ok (.agg (hzC (hzs.getD i (0, [], []))).toArray) w := by
  rcases (by omega : i = 0 ∨ i = 1 ∨ i = 2 ∨ i = 3 ∨ i = 4 ∨ i = 5) with rfl | rfl | rfl | rfl | rfl | rfl
  all_goals kernel_rfl
theorem hz_len : ∀ i, i < 6 → (hzs.getD i (0, [], [])).2.1.length = 9 ∧ (hzs.getD i (0, [], [])).2.2.length = 9 := by decide
theorem hz_take : ∀ i, i < 6 → hzs.take (i + 1) = hzs.take i ++ [hzs.getD i (0, [], [])] := by decide
theorem hz_mem : ∀ i, i < 6 → hzs.getD i (0, [], []) ∈ hzs := by decide
theorem hz_on {x : List Bool} {s i : Nat} (hi : i < 6) (h : ((hzs.take i).all fun h => !hzB x s h) = true) (g : hzB x s (hzs.getD i (0, [], [])) = false) : ((hzs.take (i + 1)).all fun h => !hzB x s h) = true := by
  rw [hz_take i hi, List.all_append, h]
  simp only [List.all_cons, List.all_nil, g]
  rfl
theorem hz_off {x : List Bool} {s i : Nat} (hi : i < 6) (g : hzB x s (hzs.getD i (0, [], [])) = true) : sfr x s = false := by
  unfold sfr
  rw [List.all_eq_false]
  exact ⟨_, hz_mem i hi, by rw [g]; simp⟩
theorem run_loadAt_row {P : Program} (w : World) (g : Nat) (t ty : TypeId) (cs : Array Value) (fr : Nat × Nat) (d : TypeDesc) (hg : w.heap[g]? = some (.cells cs t fr))
    (hu : P.underlying ty = some d) (hd : (match d with | .struct _ | .array _ _ => true | _ => false) = true) (hi : (P.info? ty).map (·.size) = some cs.size) :
    (Instr.loadAt ty (.pointer (some ⟨g, 0, none⟩))).run P w = .ok (.agg cs) w := by
  simp only [Instr.loadAt, Instr.sureAddr, Sem.run_bind, Sem.run_pure, Result.andThen_ok, run_loadVar_row w g t ty cs fr d hg hu hd hi]
theorem range_mid {w : World} {b o : Nat} {A B C : List Value} (h : w.rangeAt b o (A ++ (B ++ C))) (k : Nat) (hk : k = o + A.length) : w.rangeAt b k B := fun j v hv => by
  have hj := (List.getElem?_eq_some_iff.1 hv).1
  have := h (A.length + j) v (by rw [List.getElem?_append_right (by omega), Nat.add_sub_cancel_left, List.getElem?_append_left hj]; exact hv)
  rw [hk, Nat.add_assoc]
  exact this
theorem wpList_load_midA {P : Program} {ops : Array Oper} {rest : List Oper} {op : Oper} {a : Act} {w : World} {Q : Exit → Act → World → Prop} (hgd : op.guard = none) (ty : TypeId) (x : Operand) (ho : op.op = .load ty x)
    (b o : Nat) (hx : a.eval x = .pointer (some ⟨b, o, none⟩)) (cs : List Value) (A : Array Value) (hA : cs.toArray = A) (d : TypeDesc) (hc : w.rangeAt b o cs)
    (hu : P.underlying ty = some d) (hd : d.isRow = true) (hi : (P.info? ty).map (·.size) = some A.size)
    (h : wpList P ops Q rest (a.put op.dst (.agg A)) w) : wpList P ops Q (op :: rest) a w := by
  subst hA
  exact wpList_load_mid hgd ty x ho b o hx cs d hc hu hd (by rw [hi, List.size_toArray]) h
set_option maxHeartbeats 4000000 in
theorem rsafe_any (x : List Bool) (hx : x.length = 9) (s : Nat) (hs : s < 2) (w : World) (hT : Tabs w) :
    Calls Tryz.prog 38 #[rv x, .int .i64 s] w fun e w' => e = .returned (.bool (sfr x s)) ∧ Below w.heap.size w w' := by
  have hI : (Tryz.prog.info? 116).map (·.size) = some c_hazards.toArray.size := by kernel_rfl
  have hT7 := hT.hazards
  obtain ⟨cz, hcz⟩ : ∃ cz, c_hazards = cz := ⟨_, rfl⟩
  rw [hcz] at hI hT7
  obtain ⟨HA, hHA⟩ : ∃ HA, cz.toArray = HA := ⟨_, rfl⟩
  rw [hHA] at hI
  obtain ⟨n, hn⟩ : ∃ n, w.heap.size = n := ⟨_, rfl⟩
  obtain ⟨X, hX⟩ : ∃ X, bc x = X := ⟨_, rfl⟩
  have HT : Hid ((w.alloc (.cells X 80)).rangeAt 5 0 cz) := World.rangeAt_alloc hT7 _
  have HI : Hid _ := hI
  have HH : Hid (cz.toArray = HA) := hHA
  have HZ : Hid (c_hazards = cz) := hcz
  have HX : Hid (bc x = X) := hX
  have e : rv x = .agg X := by rw [← hX]; rfl
  rw [e]
  clear hI hHA hcz hT hT7 hs hX e
  go_enter Tryz.func38, Tryz.ntmps38
  go_upto_region 2 with (with_reducible refine at_list ?_; refine wpList_load_midA rfl 116 (.global 5) rfl 5 0 rfl cz HA HH.out _ HT.out Tryz.underlying116 rfl HI.out ?_)
  go_loopw [8] (fun v8 wr => ∃ i : Nat, i ≤ 6 ∧ v8 = .int .i64 i ∧ ((hzs.take i).all fun h => !hzB x s h) = true ∧ Below n w wr ∧ wr.heap[n]? = some (.cells X 80 (0, 0))) (fun v _ => 6 - (intOf v).toNat)
  case atStart => exact ⟨0, Nat.zero_le _, rfl, rfl, by rw [← hn]; exact (Below.refl _ _).alloc (Nat.le_refl _) _, by rw [← hn]; exact heap_alloc_new _ _⟩
  case round =>
    obtain ⟨i, hi, rfl, hall, hb, hrow⟩ := hrel
    by_cases hlt : i < 6
    · have b1 : (i : Int) < 6 := by omega
      have HB : Hid (Below n w wr) := hb
      have HR : Hid (wr.heap[n]? = some (.cells X 80 (0, 0))) := hrow
      have HL : Hid (((hzs.take i).all fun h => !hzB x s h) = true) := hall
      clear hb hrow hall
      have hix : (Instr.index 116 (.agg HA) (.int .i64 i)).run Tryz.prog wr = .ok (.agg (hzC (hzs.getD i (0, [], []))).toArray) wr := by
        rw [← HH.out, ← HZ.out]
        exact hz_index i hlt wr
      obtain ⟨lam, lln⟩ := hz_len i hlt
      obtain ⟨⟨sd, am, ln⟩, hh⟩ : ∃ h, hzs.getD i (0, [], []) = h := ⟨_, rfl⟩
      rw [hh] at hix lam lln
      obtain ⟨Y, hY⟩ : ∃ Y, (hzC (sd, am, ln)).toArray = Y := ⟨_, rfl⟩
      rw [hY] at hix
      have HY : Hid (hzs.getD i (0, [], []) = (sd, am, ln) ∧ (hzC (sd, am, ln)).toArray = Y) := ⟨hh, hY⟩
      clear hh hY
      obtain ⟨m, hm⟩ : ∃ m, wr.heap.size = m := ⟨_, rfl⟩
      have HM : Hid (wr.heap.size = m ∧ n < m) := ⟨hm, by have := (Array.getElem?_eq_some_iff.1 HR.out).1; omega⟩
      have h19 : 19 = Y.size := by rw [← HY.out.2]; simp [hzC, lam, lln]
      have hsz : (Tryz.prog.info? 115).map (·.size) = some Y.size := by rw [← h19]; kernel_rfl
      have hone : Y.all (·.oneCell') = true := by rw [← HY.out.2]; simp [hzC, Value.oneCell']
      go_wp2_with (with_reducible refine at_list ?_; refine hold_store 115 (.tmp 6) (.tmp 10) rfl ?_)
      refine store_row_new rfl 115 (.tmp 6) (.tmp 10) rfl m Y rfl hm.symm rfl 115 _ hsz h19 hone ?_
      obtain ⟨V, hV⟩ : ∃ V, wr.alloc (.cells Y 115) = V := ⟨_, rfl⟩
      have hVm : V.heap[m]? = some (.cells Y 115 (0, 0)) := by rw [← hV, ← hm]; exact heap_alloc_new _ _
      have hVn : V.heap[n]? = some (.cells X 80 (0, 0)) := by rw [← hV, heap_alloc_any, if_neg (by have := HM.out; omega)]; exact HR.out
      have hVb : Below n w V := by rw [← hV]; exact HB.out.alloc (by have := HM.out; omega) _
      have hVs : V.heap.size = m + 1 := by rw [← hV, size_alloc, hm]
      rw [hV]
      have HV : Hid (V.heap[m]? = some (.cells Y 115 (0, 0)) ∧ V.heap[n]? = some (.cells X 80 (0, 0)) ∧ Below n w V ∧ V.heap.size = m + 1) := ⟨hVm, hVn, hVb, hVs⟩
      clear hVm hVn hVb hVs hV hix hsz hone h19 hm
      obtain ⟨AM, hAM⟩ : ∃ A, bc am = A := ⟨_, rfl⟩
      obtain ⟨LN, hLN⟩ : ∃ A, bc ln = A := ⟨_, rfl⟩
      obtain ⟨ZW, hZW⟩ : ∃ A, bc (List.zipWith and x am) = A := ⟨_, rfl⟩
      have CF : ∀ y, Calls Tryz.prog 64 #[.agg X, .agg AM] y fun e w' => e = .returned (.agg ZW) ∧ Below y.heap.size y w' := fun y => by
        rw [← HX.out, ← hAM, ← hZW]
        exact within_any x am hx lam y
      have EQ : ∀ y, (Op.equalIn 10000 80 (.agg ZW) (.agg LN)).run Tryz.prog y = .ok (List.zipWith and x am == ln) y := fun y => by
        rw [← hZW, ← hLN]
        exact eq_row (by simp [hx, lam]) lln y
      have hYr : ∀ y, Below V.heap.size V y → y.cell? ⟨m, 0, none⟩ = some (.int .i64 sd) ∧ y.rangeAt m 1 (am.map Value.bool) ∧ y.rangeAt m 10 (ln.map Value.bool) ∧ y.heap[n]? = some (.cells X 80 (0, 0)) := fun y hy => by
        have h1 := (hy.block m (by rw [HV.out.2.2.2]; omega)).trans HV.out.1
        have h2 : y.rangeAt m 0 (hzC (sd, am, ln)) := range_row h1 _ HY.out.2
        have h3 : y.rangeAt m 0 ([.int .i64 sd] ++ (am.map Value.bool ++ ln.map Value.bool)) := h2
        have h4 : y.rangeAt m 0 (([.int .i64 sd] ++ am.map Value.bool) ++ (ln.map Value.bool ++ [])) := by rw [List.append_nil, List.append_assoc]; exact h3
        refine ⟨h3 0 _ rfl, range_mid h3 1 rfl, range_mid h4 10 (by simp [lam]), ?_⟩
        rw [hy.block n (by rw [HV.out.2.2.2]; have := HM.out; omega)]
        exact HV.out.2.1
      have HYR : Hid _ := hYr
      have i9 : (Tryz.prog.info? 80).map (·.size) = some 9 := by kernel_rfl
      have iX : (Tryz.prog.info? 80).map (·.size) = some X.size := by
        have e9 : X.size = 9 := by rw [← HX.out]; simp [bc, hx]
        rw [e9]
        exact i9
      have HLA : Hid (am.length = 9 ∧ ln.length = 9 ∧ bc am = AM ∧ bc ln = LN) := ⟨lam, lln, hAM, hLN⟩
      have HSX : Hid ((Tryz.prog.info? 80).map (·.size) = some 9 ∧ (Tryz.prog.info? 80).map (·.size) = some X.size) := ⟨i9, iX⟩
      clear hYr lam lln hAM hLN hZW iX i9
      go_upto_region 4 with fail
      simp only [Act.put]
      by_cases hsd : sd = (s : Int)
      · have g1 : decide (sd = (s : Int)) = true := by simp [hsd]
        have g2 : (sd == (s : Int)) = true := by simp [hsd]
        clear hsd
        refine Go.Pin.wp_region_cls (fun y => Below V.heap.size V y) (by kernel_rfl) (by kernel_rfl) ((Below.refl _ _).drew) ?_
        intro Sq fq hNq hRq hSq
        have y0 := fun x => (HYR.out _ (hRq x)).1
        have y1 := fun x => (run_loadAt_mid (P := Tryz.prog) (fq x) m 1 80 _ _ (HYR.out _ (hRq x)).2.1 Tryz.underlying80 rfl (by rw [List.length_map, HLA.out.1]; exact HSX.out.1)).trans (congrArg (fun A => Result.ok (Value.agg A) (fq x)) HLA.out.2.2.1)
        have y2 := fun x => (run_loadAt_mid (P := Tryz.prog) (fq x) m 10 80 _ _ (HYR.out _ (hRq x)).2.2.1 Tryz.underlying80 rfl (by rw [List.length_map, HLA.out.2.1]; exact HSX.out.1)).trans (congrArg (fun A => Result.ok (Value.agg A) (fq x)) HLA.out.2.2.2)
        have y3 := fun x => run_loadAt_row (P := Tryz.prog) (fq x) n 80 80 X (0, 0) _ (HYR.out _ (hRq x)).2.2.2 Tryz.underlying80 rfl HSX.out.2
        have CF := fun x => CF (fq x)
        repeat (first | (refine Go.BigFrame.wpQuiet_want (by kernel_rfl) ?_; intro Kq hKq; (first | (refine Go.Pin.quiet_load 80 (.tmp 2) rfl _ rfl (.agg X) y3 ?_) | (refine Go.Pin.quiet_load 80 (.tmp 17) rfl _ rfl (.agg AM) y1 ?_) | (refine Go.Pin.quiet_load 80 (.tmp 20) rfl _ rfl (.agg LN) y2 ?_)); refine hKq _ ?_; clear hKq Kq; simp only [Act.put, List.setIfInBounds_toArray, List.set_cons_zero, List.set_cons_succ]) | go_big_quiet_step (exact (CF _).mono (fun e w' h => ⟨h.1, hSq _ ((hRq _).trans (h.2.mono (hRq _).size))⟩)))
        refine wpQuiet_nil ?_
        intro _ hw'
        obtain ⟨xq, hw''⟩ := hw'
        subst hw''
        have HYq := hRq xq
        generalize fq xq = y at HYq ⊢
        have HYB : Hid (Below n w y ∧ y.heap[n]? = some (.cells X 80 (0, 0))) := ⟨HV.out.2.2.1.trans (HYq.mono (by rw [HV.out.2.2.2]; have := HM.out; omega)), (HYR.out y HYq).2.2.2⟩
        clear hRq hSq hNq xq fq Sq y0 y1 y2 y3 CF EQ HYq g2
        cases hz : (List.zipWith and x am == ln) with
        | true =>
          have HG : Hid (hzB x s (hzs.getD i (0, [], [])) = true) := by
            show hzB x s (hzs.getD i (0, [], [])) = true
            rw [HY.out.1]
            simp only [hzB, g1, Bool.true_and, decide_eq_true_eq]
            simpa using hz
          clear hz g1
          go_wp2
          go_ret
          exact ⟨by rw [hz_off hlt HG.out]; rfl, HYB.out.1⟩
        | false =>
          have HG : Hid (hzB x s (hzs.getD i (0, [], [])) = false) := by
            show hzB x s (hzs.getD i (0, [], [])) = false
            rw [HY.out.1]
            simp only [hzB, g1, Bool.true_and, decide_eq_false_iff_not]
            simpa using hz
          clear hz g1
          go_wp2
          exact ⟨⟨i + 1, hlt, congrArg (Value.int .i64) (by omega), hz_on hlt HL.out HG.out, HYB.out⟩, by show 6 - ((i : Int) + 1).toNat < 6 - ((i : Int)).toNat; omega⟩
      · have g1 : decide (sd = (s : Int)) = false := by simp [hsd]
        have g2 : (sd == (s : Int)) = false := by simp [hsd]
        have HG : Hid (hzB x s (hzs.getD i (0, [], [])) = false) := by
          show hzB x s (hzs.getD i (0, [], [])) = false
          rw [HY.out.1]
          simp [hzB, hsd]
        clear hsd
        refine Go.Pin.wp_region_cls (fun y => Below V.heap.size V y) (by kernel_rfl) (by kernel_rfl) ((Below.refl _ _).drew) ?_
        intro Sq fq hNq hRq hSq
        have y0 := fun x => (HYR.out _ (hRq x)).1
        repeat (go_big_quiet_step (fail))
        refine wpQuiet_nil ?_
        intro _ hw'
        obtain ⟨xq, hw''⟩ := hw'
        subst hw''
        have HYq := hRq xq
        generalize fq xq = y at HYq ⊢
        have HYB : Hid (Below n w y ∧ y.heap[n]? = some (.cells X 80 (0, 0))) := ⟨HV.out.2.2.1.trans (HYq.mono (by rw [HV.out.2.2.2]; have := HM.out; omega)), (HYR.out y HYq).2.2.2⟩
        clear hRq hSq hNq xq fq Sq y0 HYq g2 g1
        go_wp2
        exact ⟨⟨i + 1, hlt, congrArg (Value.int .i64) (by omega), hz_on hlt HL.out HG.out, HYB.out⟩, by show 6 - ((i : Int) + 1).toNat < 6 - ((i : Int)).toNat; omega⟩
    · have b1 : ¬ (i : Int) < 6 := by omega
      have HB : Hid (Below n w wr) := hb
      have e6 : i = 6 := by omega
      have HL : Hid (sfr x s = true) := by
        show sfr x s = true
        rw [e6] at hall
        exact hall
      clear hb hrow hall e6
      go_wp2
      go_ret
      exact ⟨by rw [HL.out]; rfl, HB.out⟩
end Go.Proofs.YtpfidohkohldaaaGreatDoor
/- patterns' texts, az data -/
namespace Go.Pat
def wrd (t : Int) : ByteArray :=
  if t = 1 then ⟨#[101]⟩ else if t = 2 then ⟨#[115]⟩ else if t = 3 then ⟨#[101, 101]⟩ else if t = 4 then ⟨#[101, 115]⟩ else if t = 5 then ⟨#[115, 101]⟩ else if t = 6 then ⟨#[115, 115]⟩ else if t = 7 then ⟨#[112, 115, 107]⟩ else ⟨#[]⟩
theorem wrd_size (t : Int) : (wrd t).size ≤ 3 := by
  unfold wrd
  repeat' split
  all_goals decide
def hdr (side : Int) : ByteArray := if side = 1 then ⟨#[32, 32, 60, 45, 32]⟩ else ⟨#[32, 32, 45, 62, 32]⟩
theorem hdr_size (side : Int) : (hdr side).size = 5 := by unfold hdr; split <;> rfl
/-- a row's first i tokens -/
def rowN (h : ByteArray) (l : List Int) : Nat → ByteArray
  | 0 => h
  | i + 1 => (if i = 0 then rowN h l i else rowN h l i ++ ⟨#[44, 32]⟩) ++ wrd (l.getD i 0)
def row (side : Int) (l : List Int) : ByteArray := rowN (hdr side) l l.length ++ ⟨#[10]⟩
theorem rowN_size (h : ByteArray) (l : List Int) (i : Nat) : (rowN h l i).size ≤ h.size + 5 * i := by
  induction i with
  | zero => exact Nat.le_refl _
  | succ i ih =>
    have := wrd_size (l.getD i 0)
    have e : (⟨#[44, 32]⟩ : ByteArray).size = 2 := rfl
    unfold rowN
    rw [ByteArray.size_append]
    split
    · omega
    · rw [ByteArray.size_append, e]; omega
theorem row_size (side : Int) (l : List Int) : (row side l).size ≤ 6 + 5 * l.length := by
  have := rowN_size (hdr side) l l.length
  have e : (⟨#[10]⟩ : ByteArray).size = 1 := rfl
  rw [hdr_size] at this
  unfold row
  rw [ByteArray.size_append, e]
  omega
/-- a byte of a name -/
def nmB (c : UInt8) : Bool := decide (65 ≤ c.toNat ∧ c.toNat ≤ 90) || decide (97 ≤ c.toNat ∧ c.toNat ≤ 122) || decide (48 ≤ c.toNat ∧ c.toNat ≤ 57) || decide (c.toNat = 43)
def isNm (s : ByteArray) : Bool := s.data.toList.all nmB && decide (s.size ≠ 0)
def bef (s : ByteArray) (side : Int) (l : List Int) : ByteArray := if l.length = 0 then s else s ++ row side l
def dots (p : Pt) (s : ByteArray) : ByteArray := if 0 < p.b0.length + p.b1.length then s ++ ⟨#[32, 32, 46, 46, 46, 10]⟩ else s
def txH (p : Pt) : ByteArray := dots p (bef (bef (p.nm ++ ⟨#[58, 10]⟩) 0 p.b0) 1 p.b1)
def txN (p : Pt) : Nat → ByteArray
  | 0 => txH p
  | i + 1 => txN p i ++ row (p.ln.getD i (0, [])).1 (p.ln.getD i (0, [])).2
def txt (p : Pt) : ByteArray := txN p p.ln.length
/-- Print -/
def prn (p : Pt) : ByteArray × Int := if chk p ≠ 0 then (⟨#[]⟩, chk p) else if 4096 < p.nm.size ∨ isNm p.nm = false then (⟨#[]⟩, 8) else if 4096 < (txt p).size then (⟨#[]⟩, 8) else (txt p, 0)
theorem chk_shaped {p : Pt} (h : chk p = 0) : shaped p = true := by
  unfold chk at h
  cases hs : shaped p with
  | true => rfl
  | false => rw [hs] at h; simp at h
theorem ahd_len {l : List Int} (h : ahd l = true) : l.length ≤ 2 := by
  match l, h with
  | [], _ => simp
  | [_], _ => simp
  | [_, _], _ => simp
  | _ :: _ :: _ :: _, h => simp [ahd] at h
theorem shp_len : ∀ (L : List Ln) (p : Option Int) (n : Nat), shp p n L = true → n + L.length ≤ 24 ∨ L = []
  | [], _, _, _ => .inr rfl
  | (f, ts) :: r, p, n, h => by
    rw [shp_split] at h
    simp only [Bool.and_eq_true, decide_eq_true_eq, Bool.not_eq_true', List.isEmpty_eq_false_iff] at h
    have h1 : 0 < ts.length := List.length_pos_iff.2 h.1.1.1.2
    rcases shp_len r _ _ h.2 with h2 | h2
    · left; simp; omega
    · left; rw [h2]; simp; omega
theorem shp_mem : ∀ (L : List Ln) (p : Option Int) (n : Nat), shp p n L = true → ∀ l ∈ L, (l.1 = 0 ∨ l.1 = 1) ∧ l.2 ≠ [] ∧ l.2.length ≤ 24 ∧ l.2.all isTok = true
  | [], _, _, _, l, hl => by simp at hl
  | (f, ts) :: r, p, n, h, l, hl => by
    rw [shp_split] at h
    simp only [Bool.and_eq_true, decide_eq_true_eq, Bool.not_eq_true', List.isEmpty_eq_false_iff] at h
    rcases List.mem_cons.1 hl with rfl | hl
    · exact ⟨h.1.1.1.1.1, h.1.1.1.2, by have := h.1.1.2; simp only; omega, h.1.2⟩
    · exact shp_mem r _ _ h.2 l hl
/-- what a shaped pattern's lists are -/
theorem shaped_all {p : Pt} (h : shaped p = true) : p.b0.length ≤ 2 ∧ p.b1.length ≤ 2 ∧ 0 < p.ln.length ∧ p.ln.length ≤ 24 ∧ ∀ l ∈ p.ln, (l.1 = 0 ∨ l.1 = 1) ∧ l.2 ≠ [] ∧ l.2.length ≤ 24 ∧ l.2.all isTok = true := by
  unfold shaped at h
  simp only [Bool.and_eq_true, Bool.not_eq_true', List.isEmpty_eq_false_iff] at h
  refine ⟨ahd_len h.1.1.1, ahd_len h.1.1.2, List.length_pos_iff.2 h.1.2, ?_, shp_mem _ _ _ h.2⟩
  rcases shp_len _ _ _ h.2 with h2 | h2
  · omega
  · exact absurd h2 h.1.2
theorem getD_mem {L : List Ln} {i : Nat} (h : i < L.length) : L.getD i (0, []) ∈ L := by simp [List.getD, h]
theorem bef_size (s : ByteArray) (side : Int) (l : List Int) (h : l.length ≤ 2) : (bef s side l).size ≤ s.size + 16 := by
  have := row_size side l
  unfold bef
  split
  · omega
  · rw [ByteArray.size_append]; omega
theorem txH_size {p : Pt} (hs : shaped p = true) (hn : p.nm.size ≤ 4096) : (txH p).size ≤ 4136 := by
  obtain ⟨h0, h1, -⟩ := shaped_all hs
  have e1 : (⟨#[58, 10]⟩ : ByteArray).size = 2 := rfl
  have e2 : (⟨#[32, 32, 46, 46, 46, 10]⟩ : ByteArray).size = 6 := rfl
  have a := bef_size (p.nm ++ ⟨#[58, 10]⟩) 0 p.b0 h0
  have b := bef_size (bef (p.nm ++ ⟨#[58, 10]⟩) 0 p.b0) 1 p.b1 h1
  rw [ByteArray.size_append, e1] at a
  unfold txH dots
  split
  · rw [ByteArray.size_append, e2]; omega
  · omega
theorem txN_size {p : Pt} (hs : shaped p = true) (hn : p.nm.size ≤ 4096) (i : Nat) (hi : i ≤ p.ln.length) : (txN p i).size ≤ 4136 + 126 * i := by
  induction i with
  | zero => exact txH_size hs hn
  | succ i ih =>
    have := ih (by omega)
    have h2 := ((shaped_all hs).2.2.2.2 _ (getD_mem (i := i) (by omega))).2.2.1
    have h3 := row_size (p.ln.getD i (0, [])).1 (p.ln.getD i (0, [])).2
    unfold txN
    rw [ByteArray.size_append]
    omega
end Go.Pat
/- texts cut at a byte, and the table's rows, az data -/
namespace Go.Pat
def byt (s : ByteArray) (i : Nat) : Nat := (s.data.toList.getD i 0).toNat
/-- what split has, and where it stands, behind i places -/
def splN (s : ByteArray) (c : Nat) : Nat → List ByteArray × Nat
  | 0 => ([], 0)
  | i + 1 => if i = s.size ∨ byt s i = c then ((splN s c i).1 ++ [s.extract (splN s c i).2 i], i + 1) else splN s c i
def spl (s : ByteArray) (c : Nat) : List ByteArray := (splN s c (s.size + 1)).1
theorem splN_le (s : ByteArray) (c : Nat) (i : Nat) : (splN s c i).2 ≤ i ∧ (splN s c i).1.length ≤ i := by
  induction i with
  | zero => exact ⟨Nat.le_refl _, Nat.le_refl _⟩
  | succ i ih =>
    unfold splN
    split
    · exact ⟨Nat.le_refl _, by simp; omega⟩
    · omega
theorem extract_size (s : ByteArray) (a b : Nat) : (s.extract a b).size ≤ b - a := by
  rw [ByteArray.size_extract]
  omega
theorem splN_mem (s : ByteArray) (c : Nat) (i : Nat) : ∀ x ∈ (splN s c i).1, x.size ≤ i := by
  induction i with
  | zero => intro x hx; simp [splN] at hx
  | succ i ih =>
    intro x hx
    unfold splN at hx
    split at hx
    · rcases List.mem_append.1 hx with h | h
      · have := ih x h; omega
      · obtain rfl : x = _ := by simpa using h
        have := extract_size s (splN s c i).2 i
        omega
    · have := ih x hx; omega
/-- the tokens whose word is x -/
def tokW (x : ByteArray) : Nat → List Int
  | 0 => []
  | k + 1 => if wrd (k + 1 : Nat) = x then tokW x k ++ [((k + 1 : Nat) : Int)] else tokW x k
def toks (s : ByteArray) : List Int := if s.size = 0 then [] else (spl s 32).flatMap fun x => tokW x 7
end Go.Pat
/- a text az a pattern, az data -/
namespace Go.Pat
def rwsN (s : ByteArray) : Nat → List ByteArray × Nat
  | 0 => ([], 0)
  | i + 1 => if byt s i = 10 then ((rwsN s i).1 ++ [s.extract (rwsN s i).2 i], i + 1) else rwsN s i
def rws (s : ByteArray) : List ByteArray × Nat := rwsN s s.size
theorem rwsN_le (s : ByteArray) (i : Nat) : (rwsN s i).2 ≤ i ∧ (rwsN s i).1.length ≤ i := by
  induction i with
  | zero => exact ⟨Nat.le_refl _, Nat.le_refl _⟩
  | succ i ih =>
    unfold rwsN
    split
    · exact ⟨Nat.le_refl _, by simp; omega⟩
    · omega
theorem rwsN_mem (s : ByteArray) (i : Nat) : ∀ x ∈ (rwsN s i).1, x.size ≤ i := by
  induction i with
  | zero => intro x hx; simp [rwsN] at hx
  | succ i ih =>
    intro x hx
    unfold rwsN at hx
    split at hx
    · rcases List.mem_append.1 hx with h | h
      · have := ih x h; omega
      · obtain rfl : x = _ := by simpa using h
        have := extract_size s (rwsN s i).2 i
        omega
    · have := ih x hx; omega
/-- how many bytes stand ahead of the first comma -/
def cm : List UInt8 → Nat
  | [] => 0
  | b :: r => if b.toNat = 44 then 0 else cm r + 1
def cma (s : ByteArray) : Nat := cm s.data.toList
theorem cm_le : ∀ l : List UInt8, cm l ≤ l.length
  | [] => Nat.le_refl _
  | b :: r => by
    have := cm_le r
    unfold cm
    split
    · omega
    · simp; omega
theorem cma_le (s : ByteArray) : cma s ≤ s.size := by have := cm_le s.data.toList; rw [Array.length_toList] at this; exact this
theorem cm_lt : ∀ (l : List UInt8) (n : Nat), n < cm l → (l.getD n 0).toNat ≠ 44
  | [], n, h => by simp [cm] at h
  | b :: r, n, h => by
    unfold cm at h
    split at h
    · omega
    · rename_i hb
      cases n with
      | zero => simpa using hb
      | succ n => have := cm_lt r n (by omega); simpa using this
theorem cm_at : ∀ (l : List UInt8), cm l < l.length → (l.getD (cm l) 0).toNat = 44
  | [], h => by simp at h
  | b :: r, h => by
    unfold cm at h ⊢
    split
    · rename_i hb; simpa using hb
    · rename_i hb
      rw [if_neg hb] at h
      have := cm_at r (by simpa using h)
      simpa using this
/-- the token whose word is x; 0: none -/
def tokO (x : ByteArray) : Nat → Nat
  | 0 => 0
  | k + 1 => if wrd ((k + 1 : Nat) : Int) = x then k + 1 else tokO x k
theorem tokO_le (x : ByteArray) (k : Nat) : tokO x k ≤ k := by
  induction k with
  | zero => exact Nat.le_refl _
  | succ k ih => unfold tokO; split <;> omega
def wdsN : Nat → ByteArray → Option (List Int)
  | 0, _ => none
  | f + 1, s =>
    if tokO (s.extract 0 (cma s)) 7 = 0 then none
    else if cma s = s.size then some [(tokO (s.extract 0 (cma s)) 7 : Int)]
    else if s.size ≤ cma s + 1 ∨ byt s (cma s + 1) ≠ 32 then none
    else (wdsN f (s.extract (cma s + 2) s.size)).map ((tokO (s.extract 0 (cma s)) 7 : Int) :: ·)
def wds (s : ByteArray) : Option (List Int) := wdsN (s.size + 1) s
def hdA : ByteArray := ⟨#[32, 32, 45, 62, 32]⟩
def hdB : ByteArray := ⟨#[32, 32, 60, 45, 32]⟩
def lin (s : ByteArray) : Option Ln :=
  if s.size < 5 then none
  else if s.extract 0 5 = hdA then (wds (s.extract 5 s.size)).map fun l => (0, l)
  else if s.extract 0 5 = hdB then (wds (s.extract 5 s.size)).map fun l => (1, l)
  else none
def dotR : ByteArray := ⟨#[32, 32, 46, 46, 46]⟩
def frmL : Nat → List ByteArray → Nat
  | _, [] => 1
  | i, r :: rs => if r = dotR then i + 1 else frmL (i + 1) rs
def frm (L : List ByteArray) : Nat := frmL 1 (L.drop 1)
def bfr : List ByteArray → List Int → List Int → Option (List Int × List Int)
  | [], b0, b1 => some (b0, b1)
  | r :: rs, b0, b1 => match lin r with
    | none => none
    | some (f, l) => if f = 0 then (if 0 < b0.length ∨ 0 < b1.length then none else bfr rs l b1) else (if 0 < b1.length then none else bfr rs b0 l)
def mls : List ByteArray → Option (List Ln)
  | [] => some []
  | r :: rs => match lin r with
    | none => none
    | some l => (mls rs).map (l :: ·)
def zPt : Pt := ⟨⟨#[]⟩, [], [], []⟩
def hdOk (h : ByteArray) : Bool := decide (h.size ≠ 0) && decide (byt h (h.size - 1) = 58) && isNm (h.extract 0 (h.size - 1))
/-- Parse -/
def prs (t : ByteArray) : Pt × Int :=
  if 4096 < t.size then (zPt, 8)
  else if (rws t).2 ≠ t.size ∨ (rws t).1.length = 0 then (zPt, 8)
  else if hdOk ((rws t).1.getD 0 ⟨#[]⟩) = false then (zPt, 8)
  else match bfr (((rws t).1.take (frm (rws t).1 - 1)).drop 1) [] [] with
    | none => (zPt, 8)
    | some (b0, b1) => if frm (rws t).1 = 2 then (zPt, 8) else match mls ((rws t).1.drop (frm (rws t).1)) with
      | none => (zPt, 8)
      | some ls => if chk ⟨((rws t).1.getD 0 ⟨#[]⟩).extract 0 (((rws t).1.getD 0 ⟨#[]⟩).size - 1), b0, b1, ls⟩ ≠ 0 then (zPt, chk ⟨((rws t).1.getD 0 ⟨#[]⟩).extract 0 (((rws t).1.getD 0 ⟨#[]⟩).size - 1), b0, b1, ls⟩) else (⟨((rws t).1.getD 0 ⟨#[]⟩).extract 0 (((rws t).1.getD 0 ⟨#[]⟩).size - 1), b0, b1, ls⟩, 0)
end Go.Pat
/- words that modify a pattern, az data -/
namespace Go.Pat
def pskW : ByteArray := ⟨#[112, 115, 107]⟩
def fbW : ByteArray := ⟨#[102, 97, 108, 108, 98, 97, 99, 107]⟩
/-- the number that i digits behind the third byte say -/
def dgN (s : ByteArray) : Nat → Option Nat
  | 0 => some 0
  | i + 1 => match dgN s i with
    | none => none
    | some n => if byt s (3 + i) < 48 ∨ 57 < byt s (3 + i) then none else some (10 * n + byt s (3 + i) - 48)
def nmb (s : ByteArray) : Int :=
  if s.size < 4 ∨ 6 < s.size then -1
  else if s.extract 0 3 ≠ pskW then -1
  else if byt s 3 = 48 ∧ 4 < s.size then -1
  else match dgN s (s.size - 3) with
    | none => -1
    | some n => (n : Int)
theorem dgN_le (s : ByteArray) : ∀ (i n : Nat), dgN s i = some n → n < 10 ^ i
  | 0, n, h => by simp [dgN] at h; omega
  | i + 1, n, h => by
    unfold dgN at h
    cases e : dgN s i with
    | none => rw [e] at h; cases h
    | some m =>
      rw [e] at h
      simp only at h
      split at h
      · cases h
      · injection h with h
        have := dgN_le s i m e
        rw [Nat.pow_succ]
        omega
theorem dgN_mono (s : ByteArray) : ∀ (k i : Nat), dgN s i = none → dgN s (i + k) = none
  | 0, i, h => h
  | k + 1, i, h => by
    have := dgN_mono s k i h
    show dgN s (i + k + 1) = none
    unfold dgN
    rw [this]
/-- the keys that fallback makes known -/
def cnt (l : List Int) (t : Int) : Nat := (l.filter fun x => decide ((x = 1) = (t = 1))).length
def kn (e s : Nat) : List Int := (if e = 1 then [1] else []) ++ (if s = 1 then [2] else [])
def eCnt (l : List Int) : Nat := (l.filter fun x => x == 1).length
def sCnt (l : List Int) : Nat := (l.filter fun x => !(x == 1)).length
def bck (p : Pt) : Option Pt := match p.ln with
  | [] => none
  | (f, ts) :: r =>
    let m := if f = 1 then p.b1 else p.b0
    if ahd ts = false then none
    else if 1 < eCnt ts + eCnt m ∨ 1 < sCnt ts + sCnt m then none
    else some (if f = 1 then ⟨p.nm, p.b0, kn (eCnt ts + eCnt m) (sCnt ts + sCnt m), r⟩ else ⟨p.nm, kn (eCnt ts + eCnt m) (sCnt ts + sCnt m), p.b1, r⟩)
/-- one word behind others: what comes, and the last number -/
def wd1 (first : Bool) (p : Pt) (last : Int) (w : ByteArray) : Option (Pt × Int) :=
  if w = fbW ∧ first = true then (bck p).map fun q => (q, last)
  else if nmb w < 0 ∨ nmb w ≤ last ∨ (p.ln.length : Int) < nmb w ∨ p.ln.length = 0 then none
  else if nmb w = 0 then some (⟨p.nm, p.b0, p.b1, p.ln.set 0 ((p.ln.getD 0 (0, [])).1, 7 :: (p.ln.getD 0 (0, [])).2)⟩, 0)
  else some (⟨p.nm, p.b0, p.b1, p.ln.set ((nmb w).toNat - 1) ((p.ln.getD ((nmb w).toNat - 1) (0, [])).1, (p.ln.getD ((nmb w).toNat - 1) (0, [])).2 ++ [7])⟩, nmb w)
def wdsM (p : Pt) (ws : List ByteArray) : Nat → Option (Pt × Int)
  | 0 => some (p, -1)
  | i + 1 => match wdsM p ws i with
    | none => none
    | some (q, l) => wd1 (decide (i = 0)) q l (ws.getD i ⟨#[]⟩)
def nmN (nm : ByteArray) (ws : List ByteArray) : Nat → ByteArray
  | 0 => nm
  | i + 1 => (if i = 0 then nmN nm ws i else nmN nm ws i ++ ⟨#[43]⟩) ++ ws.getD i ⟨#[]⟩
/-- Modify -/
def mdf (p : Pt) (ws : List ByteArray) : Pt × Int :=
  if chk p ≠ 0 then (zPt, chk p)
  else match wdsM p ws ws.length with
    | none => (zPt, 1)
    | some (q, _) => if chk q ≠ 0 then (zPt, chk q) else (⟨nmN p.nm ws ws.length, q.b0, q.b1, q.ln⟩, 0)
end Go.Pat
