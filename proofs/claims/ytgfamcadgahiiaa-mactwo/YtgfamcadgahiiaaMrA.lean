import Derived.Test.YtgfamcadgahiiaaMacK
import Derived.Test.YtgfamcadgahiiaaPrnH
namespace Go.Proofs.Ytgfamcadgahiiaa
set_option linter.unusedSimpArgs false
set_option linter.unusedVariables false
open Go.ChangeShapes Go.WideShapes Go.ChangeAt Go.RowKit Go.Pin Go.Prm
theorem put_none (a : Act) (v : Value) : a.put none v = a := rfl
theorem run_ldNm {a : Act} {o : Oper} {x : Operand} {g f : Nat} {cs : List Int} (hl : cs.length = 17) (ho : o.op = .load 91 x) (he : a.eval x = .pointer (some ⟨g, f, none⟩)) (w : World) (hg : w.rangeAt g f (cs.map (Value.int .i64))) : (execOp a.eval o).run Try.prog w = .ok (.value (.agg (VI .i64 cs))) w := by
  unfold execOp
  simp only [ho, he, Instr.loadAt, Instr.sureAddr, Sem.run_bind, Sem.run_pure, Result.andThen_ok, run_loadVar_mid w g f 91 (cs.map (Value.int .i64)) _ hg Try.underlying91 rfl (by rw [List.length_map, hl]; exact infoNum)]
  rfl
noncomputable def rgRt19 : Code := ((Try.f14.body.bind (findReg 19)).getD .skip)
noncomputable def opRt19 : Array Oper := opsOf rgRt19
theorem rgRt19_is : rgRt19 = .region 19 opRt19 true := by kernel_rfl
theorem opRt19_ns : Region.noSelect opRt19 = true := by kernel_rfl
theorem opRt19_0 : opIs opRt19 0 (.load 91 (.tmp 9)) (some 59) := by unfold opIs; kernel_rfl
theorem opRt19_1 : opIs opRt19 1 (.load 67 (.tmp 11)) (some 60) := by unfold opIs; kernel_rfl
theorem opRt19_2 : opIs opRt19 2 (.call { callee := .value (.func 43), args := #[.tmp 60], argTypes := #[67] }) (some 61) := by unfold opIs; kernel_rfl
theorem opRt19_3 : opIs opRt19 3 (.call { callee := .value (.func 42), args := #[.tmp 59, .tmp 61], argTypes := #[91, 91] }) (some 62) := by unfold opIs; kernel_rfl
theorem opRt19_4 : opIs opRt19 4 (.load 91 (.tmp 8)) (some 63) := by unfold opIs; kernel_rfl
theorem opRt19_5 : opIs opRt19 5 (.call { callee := .value (.func 41), args := #[.tmp 62, .tmp 63], argTypes := #[91, 91] }) (some 64) := by unfold opIs; kernel_rfl
theorem opRt19_6 : opIs opRt19 6 (.store 91 (.tmp 9) (.tmp 64)) (none) := by unfold opIs; kernel_rfl
set_option maxRecDepth 100000 in
set_option maxHeartbeats 4000000 in
theorem Rt19 {Q : Exit → Act → World → Prop} {W : World} {R0 R1 : World → Prop} {p8 p9 pb : Nat} {tm sm z0 z1 z2 bb : List Int} {a0 : Act} (sz : a0.tmps.size = 68) (e8 : a0.eval (.tmp 8) = .pointer (some ⟨p8, 0, none⟩)) (e9 : a0.eval (.tmp 9) = .pointer (some ⟨p9, 0, none⟩)) (e11 : a0.eval (.tmp 11) = .pointer (some ⟨pb, 0, none⟩))
    (ht : tm.length = 17) (hs : sm.length = 17) (hb : bb.length = 17) (hz : z2.length = 17) (hR0 : R0 W.drew)
    (HS0 : ∀ Y, R0 Y → (fun Y : World => Y.rangeAt p8 0 (tm.map (Value.int .i64)) ∧ Y.rangeAt pb 0 (bb.map (Value.int .u8))) Y) (HS1 : ∀ Y, R1 Y → (fun Y : World => Y.rangeAt p8 0 (tm.map (Value.int .i64)) ∧ Y.rangeAt pb 0 (bb.map (Value.int .u8))) Y) (HL : ∀ Y, R0 Y → Y.rangeAt p9 0 (sm.map (Value.int .i64)) ∧ Y.there p9 0 17)
    (HB : ∀ Y, R0 Y → Calls Try.prog 43 #[.agg (VI .u8 bb)] Y fun e w' => e = .returned (.agg (VI .i64 z0)) ∧ R0 w')
    (HA : ∀ Y, R0 Y → Calls Try.prog 42 #[(.agg (VI .i64 sm)), (.agg (VI .i64 z0))] Y fun e w' => e = .returned (.agg (VI .i64 z1)) ∧ R0 w')
    (HM : ∀ Y, R0 Y → Calls Try.prog 41 #[(.agg (VI .i64 z1)), (.agg (VI .i64 tm))] Y fun e w' => e = .returned (.agg (VI .i64 z2)) ∧ R0 w')
    (HW : ∀ Y, R0 Y → R1 (Y.setCells p9 0 (VI .i64 z2).toList))
    (HPN : ∀ c (a : Act) d v w, Q (.panic c) (a.put d v) w → Q (.panic c) a w)
    (H : ∀ Y, R1 Y → Q .normal ((((((a0.put (some 60) (.agg (VI .u8 bb))).put (some 63) (.agg (VI .i64 tm))).put (some 59) (.agg (VI .i64 sm))).put (some 61) (.agg (VI .i64 z0))).put (some 62) (.agg (VI .i64 z1))).put (some 64) (.agg (VI .i64 z2))) Y) : Code.wp Try.prog rgRt19 Q a0 W := by
  have L6 : ∀ Y, R0 Y → wpAnyH Try.prog .any opRt19 Q (fun Y : World => Y.rangeAt p8 0 (tm.map (Value.int .i64)) ∧ Y.rangeAt pb 0 (bb.map (Value.int .u8))) 1 #[true, true, true, true, true, true, false] ((((((a0.put (some 60) (.agg (VI .u8 bb))).put (some 63) (.agg (VI .i64 tm))).put (some 59) (.agg (VI .i64 sm))).put (some 61) (.agg (VI .i64 z0))).put (some 62) (.agg (VI .i64 z1))).put (some 64) (.agg (VI .i64 z2))) Y := fun Y h => by
    have q1 : ((((((a0.put (some 60) (.agg (VI .u8 bb))).put (some 63) (.agg (VI .i64 tm))).put (some 59) (.agg (VI .i64 sm))).put (some 61) (.agg (VI .i64 z0))).put (some 62) (.agg (VI .i64 z1))).put (some 64) (.agg (VI .i64 z2))).eval (.tmp 9) = .pointer (some ⟨p9, 0, none⟩) := by rw [eval_put_ne _ _ _ _ (by decide)]; rw [eval_put_ne _ _ _ _ (by decide)]; rw [eval_put_ne _ _ _ _ (by decide)]; rw [eval_put_ne _ _ _ _ (by decide)]; rw [eval_put_ne _ _ _ _ (by decide)]; rw [eval_put_ne _ _ _ _ (by decide)]; exact e9
    have q2 : ((((((a0.put (some 60) (.agg (VI .u8 bb))).put (some 63) (.agg (VI .i64 tm))).put (some 59) (.agg (VI .i64 sm))).put (some 61) (.agg (VI .i64 z0))).put (some 62) (.agg (VI .i64 z1))).put (some 64) (.agg (VI .i64 z2))).eval (.tmp 64) = (.agg (VI .i64 z2)) := by exact eval_put_eq _ _ _ (by simp only [size_put, sz]; decide)
    have key : (fun Y : World => Y.rangeAt p8 0 (tm.map (Value.int .i64)) ∧ Y.rangeAt pb 0 (bb.map (Value.int .u8))) (Y.setCells p9 0 (VI .i64 z2).toList) ∧ wpAnyH Try.prog .any opRt19 Q (fun Y : World => Y.rangeAt p8 0 (tm.map (Value.int .i64)) ∧ Y.rangeAt pb 0 (bb.map (Value.int .u8))) 0 #[true, true, true, true, true, true, true] ((((((a0.put (some 60) (.agg (VI .u8 bb))).put (some 63) (.agg (VI .i64 tm))).put (some 59) (.agg (VI .i64 sm))).put (some 61) (.agg (VI .i64 z0))).put (some 62) (.agg (VI .i64 z1))).put (some 64) (.agg (VI .i64 z2))) (Y.setCells p9 0 (VI .i64 z2).toList) := ⟨HS1 _ (HW Y h), wpAnyH_done (by kernel_rfl) (H _ (HW Y h)) _⟩
    refine readyH opRt19_6 (by kernel_rfl) (fun o ho hd => ?_)
    refine wp_store_mid (P := Try.prog) 91 (.tmp 9) (.tmp 64) ho p9 0 (VI .i64 z2) q1 q2 (by rw [VI_size, hz]; exact (HL Y h).2) (by rw [VI_size, hz]; exact infoNum) (VI_one _ _) ?_
    rw [hd, put_none]
    refine ⟨key.1, wpAnyH_as (l' := #[true, true, true, true, true, true, true]) (by kernel_rfl) key.2⟩
  have L5 : ∀ Y, R0 Y → wpAnyH Try.prog .any opRt19 Q (fun Y : World => Y.rangeAt p8 0 (tm.map (Value.int .i64)) ∧ Y.rangeAt pb 0 (bb.map (Value.int .u8))) 2 #[true, true, true, true, true, false, false] (((((a0.put (some 60) (.agg (VI .u8 bb))).put (some 63) (.agg (VI .i64 tm))).put (some 59) (.agg (VI .i64 sm))).put (some 61) (.agg (VI .i64 z0))).put (some 62) (.agg (VI .i64 z1))) Y := fun Y h => by
    have q1 : (((((a0.put (some 60) (.agg (VI .u8 bb))).put (some 63) (.agg (VI .i64 tm))).put (some 59) (.agg (VI .i64 sm))).put (some 61) (.agg (VI .i64 z0))).put (some 62) (.agg (VI .i64 z1))).eval (.tmp 62) = (.agg (VI .i64 z1)) := by exact eval_put_eq _ _ _ (by simp only [size_put, sz]; decide)
    have q2 : (((((a0.put (some 60) (.agg (VI .u8 bb))).put (some 63) (.agg (VI .i64 tm))).put (some 59) (.agg (VI .i64 sm))).put (some 61) (.agg (VI .i64 z0))).put (some 62) (.agg (VI .i64 z1))).eval (.tmp 63) = (.agg (VI .i64 tm)) := by rw [eval_put_ne _ _ _ _ (by decide)]; rw [eval_put_ne _ _ _ _ (by decide)]; rw [eval_put_ne _ _ _ _ (by decide)]; exact eval_put_eq _ _ _ (by simp only [size_put, sz]; decide)
    refine readyH opRt19_5 (by kernel_rfl) (fun o ho hd => wpCall (v := (.agg (VI .i64 z2))) ho hd (args := #[(.agg (VI .i64 z1)), (.agg (VI .i64 tm))]) (by simp only [List.map_toArray, List.map_cons, List.map_nil, q1, q2]) (fun _ => rfl) (HM Y h) (fun w' hw' => ⟨HS0 _ hw', ?_⟩))
    refine wpAnyH_as (l' := #[true, true, true, true, true, true, false]) (by kernel_rfl) ?_
    exact L6 w' hw'
  have L3 : ∀ Y, R0 Y → wpAnyH Try.prog .any opRt19 Q (fun Y : World => Y.rangeAt p8 0 (tm.map (Value.int .i64)) ∧ Y.rangeAt pb 0 (bb.map (Value.int .u8))) 3 #[true, true, true, false, true, false, false] ((((a0.put (some 60) (.agg (VI .u8 bb))).put (some 63) (.agg (VI .i64 tm))).put (some 59) (.agg (VI .i64 sm))).put (some 61) (.agg (VI .i64 z0))) Y := fun Y h => by
    have q1 : ((((a0.put (some 60) (.agg (VI .u8 bb))).put (some 63) (.agg (VI .i64 tm))).put (some 59) (.agg (VI .i64 sm))).put (some 61) (.agg (VI .i64 z0))).eval (.tmp 59) = (.agg (VI .i64 sm)) := by rw [eval_put_ne _ _ _ _ (by decide)]; exact eval_put_eq _ _ _ (by simp only [size_put, sz]; decide)
    have q2 : ((((a0.put (some 60) (.agg (VI .u8 bb))).put (some 63) (.agg (VI .i64 tm))).put (some 59) (.agg (VI .i64 sm))).put (some 61) (.agg (VI .i64 z0))).eval (.tmp 61) = (.agg (VI .i64 z0)) := by exact eval_put_eq _ _ _ (by simp only [size_put, sz]; decide)
    refine readyH opRt19_3 (by kernel_rfl) (fun o ho hd => wpCall (v := (.agg (VI .i64 z1))) ho hd (args := #[(.agg (VI .i64 sm)), (.agg (VI .i64 z0))]) (by simp only [List.map_toArray, List.map_cons, List.map_nil, q1, q2]) (fun _ => rfl) (HA Y h) (fun w' hw' => ⟨HS0 _ hw', ?_⟩))
    refine wpAnyH_as (l' := #[true, true, true, true, true, false, false]) (by kernel_rfl) ?_
    exact L5 w' hw'
  have L2 : ∀ Y, R0 Y → wpAnyH Try.prog .any opRt19 Q (fun Y : World => Y.rangeAt p8 0 (tm.map (Value.int .i64)) ∧ Y.rangeAt pb 0 (bb.map (Value.int .u8))) 4 #[true, true, false, false, true, false, false] (((a0.put (some 60) (.agg (VI .u8 bb))).put (some 63) (.agg (VI .i64 tm))).put (some 59) (.agg (VI .i64 sm))) Y := fun Y h => by
    have q1 : (((a0.put (some 60) (.agg (VI .u8 bb))).put (some 63) (.agg (VI .i64 tm))).put (some 59) (.agg (VI .i64 sm))).eval (.tmp 60) = .agg (VI .u8 bb) := by rw [eval_put_ne _ _ _ _ (by decide)]; rw [eval_put_ne _ _ _ _ (by decide)]; exact eval_put_eq _ _ _ (by simp only [size_put, sz]; decide)
    refine readyH opRt19_2 (by kernel_rfl) (fun o ho hd => wpCall (v := (.agg (VI .i64 z0))) ho hd (args := #[.agg (VI .u8 bb)]) (by simp only [List.map_toArray, List.map_cons, List.map_nil, q1]) (fun _ => rfl) (HB Y h) (fun w' hw' => ⟨HS0 _ hw', ?_⟩))
    refine wpAnyH_as (l' := #[true, true, true, false, true, false, false]) (by kernel_rfl) ?_
    exact L3 w' hw'
  have L0 : ∀ Y, R0 Y → wpAnyH Try.prog .any opRt19 Q (fun Y : World => Y.rangeAt p8 0 (tm.map (Value.int .i64)) ∧ Y.rangeAt pb 0 (bb.map (Value.int .u8))) 5 #[false, true, false, false, true, false, false] ((a0.put (some 60) (.agg (VI .u8 bb))).put (some 63) (.agg (VI .i64 tm))) Y := fun Y h => by
    have q0 : ((a0.put (some 60) (.agg (VI .u8 bb))).put (some 63) (.agg (VI .i64 tm))).eval (.tmp 9) = .pointer (some ⟨p9, 0, none⟩) := by rw [eval_put_ne _ _ _ _ (by decide)]; rw [eval_put_ne _ _ _ _ (by decide)]; exact e9
    have q1 : ((a0.put (some 60) (.agg (VI .u8 bb))).put (some 63) (.agg (VI .i64 tm))).eval (.tmp 60) = .agg (VI .u8 bb) := by rw [eval_put_ne _ _ _ _ (by decide)]; exact eval_put_eq _ _ _ (by simp only [size_put, sz]; decide)
    refine readyH2 opRt19_0 opRt19_2 (by kernel_rfl) (fun o ho hd => wpRun (v := (.agg (VI .i64 sm))) (w' := Y) hd (run_ldNm hs ho q0 Y (HL Y h).1) ⟨HS0 _ h, ?_⟩) (fun o ho hd => wpCall (v := (.agg (VI .i64 z0))) ho hd (args := #[.agg (VI .u8 bb)]) (by simp only [List.map_toArray, List.map_cons, List.map_nil, q1]) (fun _ => rfl) (HB Y h) (fun w' hw' => ⟨HS0 _ hw', ?_⟩))
    · refine wpAnyH_as (l' := #[true, true, false, false, true, false, false]) (by kernel_rfl) ?_
      exact L2 Y h
    · refine wpAnyH_as (l' := #[false, true, true, false, true, false, false]) (by kernel_rfl) ?_
      have q2 : (((a0.put (some 60) (.agg (VI .u8 bb))).put (some 63) (.agg (VI .i64 tm))).put (some 61) (.agg (VI .i64 z0))).eval (.tmp 9) = .pointer (some ⟨p9, 0, none⟩) := by rw [eval_put_ne _ _ _ _ (by decide)]; exact q0
      refine readyH opRt19_0 (by kernel_rfl) (fun o ho hd => wpRun (v := (.agg (VI .i64 sm))) (w' := w') hd (run_ldNm hs ho q2 w' (HL w' hw').1) ⟨HS0 _ hw', ?_⟩)
      refine wpAnyH_as (l' := #[true, true, true, false, true, false, false]) (by kernel_rfl) ?_
      rw [put_comm _ _ _ (by decide)]
      exact L3 w' hw'
  rw [rgRt19_is]
  refine wp_region_held_drew (S := (fun Y : World => Y.rangeAt p8 0 (tm.map (Value.int .i64)) ∧ Y.rangeAt pb 0 (bb.map (Value.int .u8)))) (by kernel_rfl) (HS0 _ hR0) (fun hH => ?_)
  refine wpAnyH_as (l' := #[false, false, false, false, false, false, false]) (by kernel_rfl) ?_
  refine takeH (v := .agg (VI .u8 bb)) opRt19_1 opRt19_ns (by kernel_rfl) (by kernel_rfl) HPN (fun w hw o ho => run_ld17 hb ho e11 w hw.2) hH ?_
  refine wpAnyH_as (l' := #[false, true, false, false, false, false, false]) (by kernel_rfl) ?_
  refine takeH (v := (.agg (VI .i64 tm))) opRt19_4 opRt19_ns (by kernel_rfl) (by kernel_rfl) HPN (fun w hw o ho => run_ldNm ht ho (by rw [eval_put_ne _ _ _ _ (by decide)]; exact e8) w hw.1) hH ?_
  refine wpAnyH_as (l' := #[false, true, false, false, true, false, false]) (by kernel_rfl) ?_
  exact L0 _ hR0
end Go.Proofs.Ytgfamcadgahiiaa
