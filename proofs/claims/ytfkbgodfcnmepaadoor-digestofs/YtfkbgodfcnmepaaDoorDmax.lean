import Derived.Test.YtfkbgodfcnmepaaDoorDmat
import Derived.Test.YtfkbgodfcnmepaaDoorDmaw
namespace Go.Proofs.YtfkbgodfcnmepaaDoor
set_option linter.unusedSimpArgs false
set_option linter.unusedVariables false
open Go.ChangeShapes Go.WideShapes Go.ChangeAt Go.RowKit Go.Pin Go.Str Go.Dig
theorem wanted_gf {ops : Array Oper} {j d : Nat} {a : Act} (hd : (ops[j]?).bind (·.dst) = some d) (he : a.eval (.tmp d) = .bool false) (hs : d < a.tmps.size) : yielded ops a.tmps j = some false := by
  unfold yielded
  rw [hd]
  simp only [Act.eval, Array.getD_eq_getD_getElem?] at he
  simp only [Option.bind_some]
  rw [Array.getElem?_eq_getElem hs] at he ⊢
  simp only [Option.getD_some] at he
  rw [he]
section
variable {P : Program} {ops : Array Oper} {Q : Exit → Act → World → Prop} {S : World → Prop} {fuel : Nat} {listed : Array Bool} {a : Act} {w : World}
theorem takeHF {i j : Nat} {op : Op} {d : Nat} {v : Value} (hc : opIsG ops i (j, false) op (some d)) (hs : Region.noSelect ops = true) (hf : Region.free .any ops listed i = true) (hr : (Region.ready .any ops listed).contains i = true) (hy : yielded ops a.tmps j = some false)
    (hQ : ∀ c (a : Act) d v w, Q (.panic c) (a.put d v) w → Q (.panic c) a w) (hrun : ∀ w, S w → ∀ o : Oper, o.op = op → (execOp a.eval o).run P w = .ok (.value v) w) (hS : S w)
    (h : wpAnyH P .any ops Q S fuel (listed.setIfInBounds i true) (a.put (some d) v) w) : wpAnyH P .any ops Q S (fuel + 1) listed a w := by
  obtain ⟨o, h1, h2, h3, h4⟩ := hc.get
  exact wpAnyH_take h1 hs hf hr (fun _ _ _ h => hQ _ _ _ _ _ h) (.inl ⟨by simp [Region.wanted, h2, hy], fun w hw => hrun w hw o h3⟩) hS (by rw [h4]; exact h)
theorem readyHF {i j : Nat} {op : Op} {d : Option Nat} (hc : opIsG ops i (j, false) op d) (hr : Region.ready .any ops listed = [i]) (hy : yielded ops a.tmps j = some false)
    (h : ∀ o : Oper, o.op = op → o.dst = d → Oper.wp P o a w (fun a' w' => S w' ∧ wpAnyH P .any ops Q S fuel (listed.setIfInBounds i true) a' w') Q) : wpAnyH P .any ops Q S (fuel + 1) listed a w := by
  obtain ⟨o, h1, h2, h3, h4⟩ := hc.get
  refine wpAnyH_all hr (by simp) (fun j' hj => ?_)
  obtain rfl : j' = i := by simpa using hj
  unfold wpOp
  simp only [h1]
  rw [if_pos (by simp [Region.wanted, h2, hy])]
  exact .inl (h o h3 h4)
end
section
variable {a : Act} {o : Oper} {x y z : Operand}
theorem run_ldK {g : Nat} {cs : List Int} (hl : cs.length = 32) (ho : o.op = .load 54 x) (he : a.eval x = .pointer (some ⟨g, 0, none⟩)) (w : World) (hg : w.rangeAt g 0 (cs.map (Value.int .u8))) : (execOp a.eval o).run Tryd.prog w = .ok (.value (.agg (VI .u8 cs))) w := by
  unfold execOp
  simp only [ho, he, Instr.loadAt, Instr.sureAddr, Sem.run_bind, Sem.run_pure, Result.andThen_ok, run_loadVar_mid w g 0 54 (cs.map (Value.int .u8)) _ hg Tryd.underlying54 rfl (by rw [List.length_map, hl]; exact infoK)]
  rfl
theorem run_neqK {s : List Int} (hs : s.length = 32) (ho : o.op = .binOp .neq 54 x y 54) (hx : a.eval x = .agg (VI .u8 s)) (hy : a.eval y = .agg (VI .u8 s)) (w : World) : (execOp a.eval o).run Tryd.prog w = .ok (.value (.bool false)) w := by
  have EQ := neqT hs w
  unfold execOp
  simp only [ho, hx, hy]
  go_simp
theorem run_eqlK {s : List Int} (hs : s.length = 32) (ho : o.op = .binOp .eql 54 x y 54) (hx : a.eval x = .agg (VI .u8 s)) (hy : a.eval y = .agg (VI .u8 s)) (w : World) : (execOp a.eval o).run Tryd.prog w = .ok (.value (.bool true)) w := by
  have EQ := neqT hs w
  unfold execOp
  simp only [ho, hx, hy]
  go_simp
theorem run_pickF {v : Value} (ho : o.op = .pick x y z) (hx : a.eval x = .bool false) (hz : a.eval z = v) (w : World) : (execOp a.eval o).run Tryd.prog w = .ok (.value v) w := by
  unfold execOp
  simp only [ho, hx, hz]
  go_simp
theorem run_notT (ho : o.op = .unOp .not 4 x) (hx : a.eval x = .bool true) (w : World) : (execOp a.eval o).run Tryd.prog w = .ok (.value (.bool false)) w := by
  unfold execOp
  simp only [ho, hx]
  go_simp
end
noncomputable def rgOf13 : Code := ((Tryd.f5.body.bind (findReg 13)).getD .skip)
noncomputable def opOf13 : Array Oper := opsOf rgOf13
theorem rgOf13_is : rgOf13 = .region 13 opOf13 true := by kernel_rfl
theorem opOf13_ns : Region.noSelect opOf13 = true := by kernel_rfl
theorem opOf13_0 : opIs opOf13 0 (.load 54 (.tmp 8)) (some 43) := by unfold opIs; kernel_rfl
theorem opOf13_1 : opIs opOf13 1 (.move (.tmp 0)) (some 44) := by unfold opIs; kernel_rfl
theorem opOf13_2 : opIs opOf13 2 (.call { callee := .value (.func 28), args := #[.tmp 44], argTypes := #[51] }) (some 45) := by unfold opIs; kernel_rfl
theorem opOf13_3 : opIs opOf13 3 (.call { callee := .value (.func 27), args := #[.tmp 45], argTypes := #[22] }) (some 46) := by unfold opIs; kernel_rfl
theorem opOf13_4 : opIs opOf13 4 (.binOp .neq 54 (.tmp 43) (.tmp 46) 54) (some 47) := by unfold opIs; kernel_rfl
theorem opOf13_5 : opIs opOf13 5 (.move (.tmp 47)) (some 48) := by unfold opIs; kernel_rfl
theorem opOf13_6 : opIsG opOf13 6 (5, false) (.move (.tmp 7)) (some 49) := by unfold opIsG; kernel_rfl
theorem opOf13_7 : opIsG opOf13 7 (5, false) (.call { callee := .value (.func 16), args := #[.tmp 49], argTypes := #[23] }) (some 50) := by unfold opIsG; kernel_rfl
theorem opOf13_8 : opIsG opOf13 8 (5, false) (.move (.tmp 0)) (some 51) := by unfold opIsG; kernel_rfl
theorem opOf13_9 : opIsG opOf13 9 (5, false) (.call { callee := .value (.func 30), args := #[.tmp 51], argTypes := #[51] }) (some 52) := by unfold opIsG; kernel_rfl
theorem opOf13_10 : opIsG opOf13 10 (5, false) (.call { callee := .value (.func 29), args := #[.tmp 52], argTypes := #[59] }) (some 53) := by unfold opIsG; kernel_rfl
theorem opOf13_11 : opIsG opOf13 11 (5, false) (.call { callee := .value (.func 15), args := #[.tmp 50, .tmp 53], argTypes := #[36, 36] }) (some 54) := by unfold opIsG; kernel_rfl
theorem opOf13_12 : opIsG opOf13 12 (5, false) (.unOp .not 4 (.tmp 54)) (some 55) := by unfold opIsG; kernel_rfl
theorem opOf13_13 : opIs opOf13 13 (.pick (.tmp 48) (.const (.bool true)) (.tmp 55)) (some 56) := by unfold opIs; kernel_rfl
set_option maxRecDepth 100000 in
set_option maxHeartbeats 4000000 in
theorem Of13 {Q : Exit → Act → World → Prop} {W0 : World} {R0 : World → Prop} {R1 : Value → World → Prop} {R2 : Value → World → Prop} {R3 : Value → Value → World → Prop} {R4 : Value → Value → Value → World → Prop} {R5 : Value → Value → Value → Value → World → Prop} {R6 : Value → Value → Value → Value → World → Prop} {R p8 : Nat} {T : List Int} {pv : Value} {a0 : Act} (hT : T.length = 32)
    (sz0 : a0.tmps.size = 121) (e0 : a0.eval (.tmp 0) = pv) (e7 : a0.eval (.tmp 7) = .pointer (some ⟨R, 0, none⟩)) (e8 : a0.eval (.tmp 8) = .pointer (some ⟨p8, 0, none⟩))
    (h0 : R0 W0.drew)
    (HS0 : ∀ Y, R0 Y → (fun Y : World => Y.rangeAt p8 0 (T.map (Value.int .u8))) Y)
    (HS1 : ∀ vj : Value, ∀ Y, R1 vj Y → (fun Y : World => Y.rangeAt p8 0 (T.map (Value.int .u8))) Y)
    (HS2 : ∀ vj : Value, ∀ Y, R2 vj Y → (fun Y : World => Y.rangeAt p8 0 (T.map (Value.int .u8))) Y)
    (HS3 : ∀ vj : Value, ∀ ue : Value, ∀ Y, R3 vj ue Y → (fun Y : World => Y.rangeAt p8 0 (T.map (Value.int .u8))) Y)
    (HS4 : ∀ vj : Value, ∀ ue : Value, ∀ vl : Value, ∀ Y, R4 vj ue vl Y → (fun Y : World => Y.rangeAt p8 0 (T.map (Value.int .u8))) Y)
    (HS5 : ∀ vj : Value, ∀ ue : Value, ∀ vl : Value, ∀ ul : Value, ∀ Y, R5 vj ue vl ul Y → (fun Y : World => Y.rangeAt p8 0 (T.map (Value.int .u8))) Y)
    (HS6 : ∀ vj : Value, ∀ ue : Value, ∀ vl : Value, ∀ ul : Value, ∀ Y, R6 vj ue vl ul Y → (fun Y : World => Y.rangeAt p8 0 (T.map (Value.int .u8))) Y)
    (HK0 : Hid (∀ Y, R0 Y → Calls Tryd.prog 28 #[pv] Y fun e w' => ∃ vj : Value, e = .returned (vj) ∧ R1 vj w'))
    (HK1 : Hid (∀ vj : Value, ∀ Y, R1 vj Y → Calls Tryd.prog 27 #[vj] Y fun e w' => e = .returned (.agg (VI .u8 T)) ∧ R2 vj w'))
    (HK2 : Hid (∀ vj : Value, ∀ Y, R2 vj Y → Calls Tryd.prog 16 #[.pointer (some ⟨R, 0, none⟩)] Y fun e w' => ∃ ue : Value, e = .returned (ue) ∧ R3 vj ue w'))
    (HK3 : Hid (∀ vj : Value, ∀ ue : Value, ∀ Y, R3 vj ue Y → Calls Tryd.prog 30 #[pv] Y fun e w' => ∃ vl : Value, e = .returned (vl) ∧ R4 vj ue vl w'))
    (HK4 : Hid (∀ vj : Value, ∀ ue : Value, ∀ vl : Value, ∀ Y, R4 vj ue vl Y → Calls Tryd.prog 29 #[vl] Y fun e w' => ∃ ul : Value, e = .returned (ul) ∧ R5 vj ue vl ul w'))
    (HK5 : Hid (∀ vj : Value, ∀ ue : Value, ∀ vl : Value, ∀ ul : Value, ∀ Y, R5 vj ue vl ul Y → Calls Tryd.prog 15 #[ue, ul] Y fun e w' => e = .returned (.bool true) ∧ R6 vj ue vl ul w'))
    (HPN : ∀ c (a : Act) d v w, Q (.panic c) (a.put d v) w → Q (.panic c) a w)
    (H : ∀ vj : Value, ∀ ue : Value, ∀ vl : Value, ∀ ul : Value, ∀ Y, R6 vj ue vl ul Y → Q .normal ((((((((((((((a0.put (some 43) (.agg (VI .u8 T))).put (some 44) (pv)).put (some 45) (vj)).put (some 46) (.agg (VI .u8 T))).put (some 47) (.bool false)).put (some 48) (.bool false)).put (some 49) (.pointer (some ⟨R, 0, none⟩))).put (some 51) (pv)).put (some 50) (ue)).put (some 52) (vl)).put (some 53) (ul)).put (some 54) (.bool true)).put (some 55) (.bool false)).put (some 56) (.bool false)) Y) : Code.wp Tryd.prog rgOf13 Q a0 W0 := by
  rw [rgOf13_is]
  refine wp_region_held_drew (S := (fun Y : World => Y.rangeAt p8 0 (T.map (Value.int .u8)))) (by kernel_rfl) (HS0 _ h0) (fun hH => ?_)
  refine wpAnyH_as (l' := #[false, false, false, false, false, false, false, false, false, false, false, false, false, false]) (by kernel_rfl) ?_
  have st0 := h0
  refine takeH (v := .agg (VI .u8 T)) opOf13_0 opOf13_ns (by kernel_rfl) (by kernel_rfl) HPN (fun w hw o ho => run_ldK hT ho e8 w hw) (HS0 _ h0) ?_
  refine wpAnyH_as (l' := #[true, false, false, false, false, false, false, false, false, false, false, false, false, false]) (by kernel_rfl) ?_
  obtain ⟨a1, ha1⟩ : ∃ a' : Act, a' = a0.put (some 43) (.agg (VI .u8 T)) := ⟨_, rfl⟩
  rw [← ha1]
  have sz1 : a1.tmps.size = 121 := by rw [ha1, size_put]; exact sz0
  have e1_0 : a1.eval (.tmp 0) = pv := by rw [ha1, eval_put_ne _ _ _ _ (by decide)]; exact e0
  have e1_7 : a1.eval (.tmp 7) = .pointer (some ⟨R, 0, none⟩) := by rw [ha1, eval_put_ne _ _ _ _ (by decide)]; exact e7
  have e1_43 : a1.eval (.tmp 43) = .agg (VI .u8 T) := by rw [ha1]; exact eval_put_eq _ _ _ (by rw [sz0]; decide)
  refine takeH (v := pv) opOf13_1 opOf13_ns (by kernel_rfl) (by kernel_rfl) HPN (fun w hw o ho => run_move ho e1_0 w) (HS0 _ h0) ?_
  refine wpAnyH_as (l' := #[true, true, false, false, false, false, false, false, false, false, false, false, false, false]) (by kernel_rfl) ?_
  obtain ⟨a2, ha2⟩ : ∃ a' : Act, a' = a1.put (some 44) (pv) := ⟨_, rfl⟩
  rw [← ha2]
  have sz2 : a2.tmps.size = 121 := by rw [ha2, size_put]; exact sz1
  have e2_0 : a2.eval (.tmp 0) = pv := by rw [ha2, eval_put_ne _ _ _ _ (by decide)]; exact e1_0
  have e2_7 : a2.eval (.tmp 7) = .pointer (some ⟨R, 0, none⟩) := by rw [ha2, eval_put_ne _ _ _ _ (by decide)]; exact e1_7
  have e2_43 : a2.eval (.tmp 43) = .agg (VI .u8 T) := by rw [ha2, eval_put_ne _ _ _ _ (by decide)]; exact e1_43
  have e2_44 : a2.eval (.tmp 44) = pv := by rw [ha2]; exact eval_put_eq _ _ _ (by rw [sz1]; decide)
  refine readyH opOf13_2 (by kernel_rfl) (fun o ho hd => wpCallX (v := fun vj : Value => vj) ho hd (args := #[pv]) (by simp only [List.map_toArray, List.map_cons, List.map_nil, e2_44] <;> rfl) (fun _ => rfl) (HK0.out  _ st0) (fun vj w3 st3 => ⟨(HS1 vj _ st3), ?_⟩))
  refine wpAnyH_as (l' := #[true, true, true, false, false, false, false, false, false, false, false, false, false, false]) (by kernel_rfl) ?_
  obtain ⟨a3, ha3⟩ : ∃ a' : Act, a' = a2.put (some 45) (vj) := ⟨_, rfl⟩
  rw [← ha3]
  have sz3 : a3.tmps.size = 121 := by rw [ha3, size_put]; exact sz2
  have e3_0 : a3.eval (.tmp 0) = pv := by rw [ha3, eval_put_ne _ _ _ _ (by decide)]; exact e2_0
  have e3_7 : a3.eval (.tmp 7) = .pointer (some ⟨R, 0, none⟩) := by rw [ha3, eval_put_ne _ _ _ _ (by decide)]; exact e2_7
  have e3_43 : a3.eval (.tmp 43) = .agg (VI .u8 T) := by rw [ha3, eval_put_ne _ _ _ _ (by decide)]; exact e2_43
  have e3_45 : a3.eval (.tmp 45) = vj := by rw [ha3]; exact eval_put_eq _ _ _ (by rw [sz2]; decide)
  refine readyH opOf13_3 (by kernel_rfl) (fun o ho hd => wpCall (v := .agg (VI .u8 T)) ho hd (args := #[vj]) (by simp only [List.map_toArray, List.map_cons, List.map_nil, e3_45] <;> rfl) (fun _ => rfl) (HK1.out vj _ st3) (fun w4 st4 => ⟨(HS2 vj _ st4), ?_⟩))
  refine wpAnyH_as (l' := #[true, true, true, true, false, false, false, false, false, false, false, false, false, false]) (by kernel_rfl) ?_
  obtain ⟨a4, ha4⟩ : ∃ a' : Act, a' = a3.put (some 46) (.agg (VI .u8 T)) := ⟨_, rfl⟩
  rw [← ha4]
  have sz4 : a4.tmps.size = 121 := by rw [ha4, size_put]; exact sz3
  have e4_0 : a4.eval (.tmp 0) = pv := by rw [ha4, eval_put_ne _ _ _ _ (by decide)]; exact e3_0
  have e4_7 : a4.eval (.tmp 7) = .pointer (some ⟨R, 0, none⟩) := by rw [ha4, eval_put_ne _ _ _ _ (by decide)]; exact e3_7
  have e4_43 : a4.eval (.tmp 43) = .agg (VI .u8 T) := by rw [ha4, eval_put_ne _ _ _ _ (by decide)]; exact e3_43
  have e4_46 : a4.eval (.tmp 46) = .agg (VI .u8 T) := by rw [ha4]; exact eval_put_eq _ _ _ (by rw [sz3]; decide)
  refine takeH (v := .bool false) opOf13_4 opOf13_ns (by kernel_rfl) (by kernel_rfl) HPN (fun w hw o ho => run_neqK hT ho e4_43 e4_46 w) (HS2 vj _ st4) ?_
  refine wpAnyH_as (l' := #[true, true, true, true, true, false, false, false, false, false, false, false, false, false]) (by kernel_rfl) ?_
  obtain ⟨a5, ha5⟩ : ∃ a' : Act, a' = a4.put (some 47) (.bool false) := ⟨_, rfl⟩
  rw [← ha5]
  have sz5 : a5.tmps.size = 121 := by rw [ha5, size_put]; exact sz4
  have e5_0 : a5.eval (.tmp 0) = pv := by rw [ha5, eval_put_ne _ _ _ _ (by decide)]; exact e4_0
  have e5_7 : a5.eval (.tmp 7) = .pointer (some ⟨R, 0, none⟩) := by rw [ha5, eval_put_ne _ _ _ _ (by decide)]; exact e4_7
  have e5_47 : a5.eval (.tmp 47) = .bool false := by rw [ha5]; exact eval_put_eq _ _ _ (by rw [sz4]; decide)
  refine takeH (v := .bool false) opOf13_5 opOf13_ns (by kernel_rfl) (by kernel_rfl) HPN (fun w hw o ho => run_move ho e5_47 w) (HS2 vj _ st4) ?_
  refine wpAnyH_as (l' := #[true, true, true, true, true, true, false, false, false, false, false, false, false, false]) (by kernel_rfl) ?_
  obtain ⟨a6, ha6⟩ : ∃ a' : Act, a' = a5.put (some 48) (.bool false) := ⟨_, rfl⟩
  rw [← ha6]
  have sz6 : a6.tmps.size = 121 := by rw [ha6, size_put]; exact sz5
  have e6_0 : a6.eval (.tmp 0) = pv := by rw [ha6, eval_put_ne _ _ _ _ (by decide)]; exact e5_0
  have e6_7 : a6.eval (.tmp 7) = .pointer (some ⟨R, 0, none⟩) := by rw [ha6, eval_put_ne _ _ _ _ (by decide)]; exact e5_7
  have e6_48 : a6.eval (.tmp 48) = .bool false := by rw [ha6]; exact eval_put_eq _ _ _ (by rw [sz5]; decide)
  refine takeHF (v := .pointer (some ⟨R, 0, none⟩)) opOf13_6 opOf13_ns (by kernel_rfl) (by kernel_rfl) (wanted_gf (ops := opOf13) (j := 5) (d := 48) (by kernel_rfl) e6_48 (by rw [sz6]; decide)) HPN (fun w hw o ho => run_move ho e6_7 w) (HS2 vj _ st4) ?_
  refine wpAnyH_as (l' := #[true, true, true, true, true, true, true, false, false, false, false, false, false, false]) (by kernel_rfl) ?_
  obtain ⟨a7, ha7⟩ : ∃ a' : Act, a' = a6.put (some 49) (.pointer (some ⟨R, 0, none⟩)) := ⟨_, rfl⟩
  rw [← ha7]
  have sz7 : a7.tmps.size = 121 := by rw [ha7, size_put]; exact sz6
  have e7_0 : a7.eval (.tmp 0) = pv := by rw [ha7, eval_put_ne _ _ _ _ (by decide)]; exact e6_0
  have e7_48 : a7.eval (.tmp 48) = .bool false := by rw [ha7, eval_put_ne _ _ _ _ (by decide)]; exact e6_48
  have e7_49 : a7.eval (.tmp 49) = .pointer (some ⟨R, 0, none⟩) := by rw [ha7]; exact eval_put_eq _ _ _ (by rw [sz6]; decide)
  refine takeHF (v := pv) opOf13_8 opOf13_ns (by kernel_rfl) (by kernel_rfl) (wanted_gf (ops := opOf13) (j := 5) (d := 48) (by kernel_rfl) e7_48 (by rw [sz7]; decide)) HPN (fun w hw o ho => run_move ho e7_0 w) (HS2 vj _ st4) ?_
  refine wpAnyH_as (l' := #[true, true, true, true, true, true, true, false, true, false, false, false, false, false]) (by kernel_rfl) ?_
  obtain ⟨a8, ha8⟩ : ∃ a' : Act, a' = a7.put (some 51) (pv) := ⟨_, rfl⟩
  rw [← ha8]
  have sz8 : a8.tmps.size = 121 := by rw [ha8, size_put]; exact sz7
  have e8_48 : a8.eval (.tmp 48) = .bool false := by rw [ha8, eval_put_ne _ _ _ _ (by decide)]; exact e7_48
  have e8_49 : a8.eval (.tmp 49) = .pointer (some ⟨R, 0, none⟩) := by rw [ha8, eval_put_ne _ _ _ _ (by decide)]; exact e7_49
  have e8_51 : a8.eval (.tmp 51) = pv := by rw [ha8]; exact eval_put_eq _ _ _ (by rw [sz7]; decide)
  refine readyHF opOf13_7 (by kernel_rfl) (wanted_gf (ops := opOf13) (j := 5) (d := 48) (by kernel_rfl) e8_48 (by rw [sz8]; decide)) (fun o ho hd => wpCallX (v := fun ue : Value => ue) ho hd (args := #[.pointer (some ⟨R, 0, none⟩)]) (by simp only [List.map_toArray, List.map_cons, List.map_nil, e8_49] <;> rfl) (fun _ => rfl) (HK2.out vj _ st4) (fun ue w9 st9 => ⟨(HS3 vj ue _ st9), ?_⟩))
  refine wpAnyH_as (l' := #[true, true, true, true, true, true, true, true, true, false, false, false, false, false]) (by kernel_rfl) ?_
  obtain ⟨a9, ha9⟩ : ∃ a' : Act, a' = a8.put (some 50) (ue) := ⟨_, rfl⟩
  rw [← ha9]
  have sz9 : a9.tmps.size = 121 := by rw [ha9, size_put]; exact sz8
  have e9_48 : a9.eval (.tmp 48) = .bool false := by rw [ha9, eval_put_ne _ _ _ _ (by decide)]; exact e8_48
  have e9_51 : a9.eval (.tmp 51) = pv := by rw [ha9, eval_put_ne _ _ _ _ (by decide)]; exact e8_51
  have e9_50 : a9.eval (.tmp 50) = ue := by rw [ha9]; exact eval_put_eq _ _ _ (by rw [sz8]; decide)
  refine readyHF opOf13_9 (by kernel_rfl) (wanted_gf (ops := opOf13) (j := 5) (d := 48) (by kernel_rfl) e9_48 (by rw [sz9]; decide)) (fun o ho hd => wpCallX (v := fun vl : Value => vl) ho hd (args := #[pv]) (by simp only [List.map_toArray, List.map_cons, List.map_nil, e9_51] <;> rfl) (fun _ => rfl) (HK3.out vj ue _ st9) (fun vl w10 st10 => ⟨(HS4 vj ue vl _ st10), ?_⟩))
  refine wpAnyH_as (l' := #[true, true, true, true, true, true, true, true, true, true, false, false, false, false]) (by kernel_rfl) ?_
  obtain ⟨a10, ha10⟩ : ∃ a' : Act, a' = a9.put (some 52) (vl) := ⟨_, rfl⟩
  rw [← ha10]
  have sz10 : a10.tmps.size = 121 := by rw [ha10, size_put]; exact sz9
  have e10_48 : a10.eval (.tmp 48) = .bool false := by rw [ha10, eval_put_ne _ _ _ _ (by decide)]; exact e9_48
  have e10_50 : a10.eval (.tmp 50) = ue := by rw [ha10, eval_put_ne _ _ _ _ (by decide)]; exact e9_50
  have e10_52 : a10.eval (.tmp 52) = vl := by rw [ha10]; exact eval_put_eq _ _ _ (by rw [sz9]; decide)
  refine readyHF opOf13_10 (by kernel_rfl) (wanted_gf (ops := opOf13) (j := 5) (d := 48) (by kernel_rfl) e10_48 (by rw [sz10]; decide)) (fun o ho hd => wpCallX (v := fun ul : Value => ul) ho hd (args := #[vl]) (by simp only [List.map_toArray, List.map_cons, List.map_nil, e10_52] <;> rfl) (fun _ => rfl) (HK4.out vj ue vl _ st10) (fun ul w11 st11 => ⟨(HS5 vj ue vl ul _ st11), ?_⟩))
  refine wpAnyH_as (l' := #[true, true, true, true, true, true, true, true, true, true, true, false, false, false]) (by kernel_rfl) ?_
  obtain ⟨a11, ha11⟩ : ∃ a' : Act, a' = a10.put (some 53) (ul) := ⟨_, rfl⟩
  rw [← ha11]
  have sz11 : a11.tmps.size = 121 := by rw [ha11, size_put]; exact sz10
  have e11_48 : a11.eval (.tmp 48) = .bool false := by rw [ha11, eval_put_ne _ _ _ _ (by decide)]; exact e10_48
  have e11_50 : a11.eval (.tmp 50) = ue := by rw [ha11, eval_put_ne _ _ _ _ (by decide)]; exact e10_50
  have e11_53 : a11.eval (.tmp 53) = ul := by rw [ha11]; exact eval_put_eq _ _ _ (by rw [sz10]; decide)
  refine readyHF opOf13_11 (by kernel_rfl) (wanted_gf (ops := opOf13) (j := 5) (d := 48) (by kernel_rfl) e11_48 (by rw [sz11]; decide)) (fun o ho hd => wpCall (v := .bool true) ho hd (args := #[ue, ul]) (by simp only [List.map_toArray, List.map_cons, List.map_nil, e11_50, e11_53] <;> rfl) (fun _ => rfl) (HK5.out vj ue vl ul _ st11) (fun w12 st12 => ⟨(HS6 vj ue vl ul _ st12), ?_⟩))
  refine wpAnyH_as (l' := #[true, true, true, true, true, true, true, true, true, true, true, true, false, false]) (by kernel_rfl) ?_
  obtain ⟨a12, ha12⟩ : ∃ a' : Act, a' = a11.put (some 54) (.bool true) := ⟨_, rfl⟩
  rw [← ha12]
  have sz12 : a12.tmps.size = 121 := by rw [ha12, size_put]; exact sz11
  have e12_48 : a12.eval (.tmp 48) = .bool false := by rw [ha12, eval_put_ne _ _ _ _ (by decide)]; exact e11_48
  have e12_54 : a12.eval (.tmp 54) = .bool true := by rw [ha12]; exact eval_put_eq _ _ _ (by rw [sz11]; decide)
  refine takeHF (v := .bool false) opOf13_12 opOf13_ns (by kernel_rfl) (by kernel_rfl) (wanted_gf (ops := opOf13) (j := 5) (d := 48) (by kernel_rfl) e12_48 (by rw [sz12]; decide)) HPN (fun w hw o ho => run_notT ho e12_54 w) (HS6 vj ue vl ul _ st12) ?_
  refine wpAnyH_as (l' := #[true, true, true, true, true, true, true, true, true, true, true, true, true, false]) (by kernel_rfl) ?_
  obtain ⟨a13, ha13⟩ : ∃ a' : Act, a' = a12.put (some 55) (.bool false) := ⟨_, rfl⟩
  rw [← ha13]
  have sz13 : a13.tmps.size = 121 := by rw [ha13, size_put]; exact sz12
  have e13_48 : a13.eval (.tmp 48) = .bool false := by rw [ha13, eval_put_ne _ _ _ _ (by decide)]; exact e12_48
  have e13_55 : a13.eval (.tmp 55) = .bool false := by rw [ha13]; exact eval_put_eq _ _ _ (by rw [sz12]; decide)
  refine takeH (v := .bool false) opOf13_13 opOf13_ns (by kernel_rfl) (by kernel_rfl) HPN (fun w hw o ho => run_pickF ho e13_48 e13_55 w) (HS6 vj ue vl ul _ st12) ?_
  refine wpAnyH_as (l' := #[true, true, true, true, true, true, true, true, true, true, true, true, true, true]) (by kernel_rfl) ?_
  refine wpAnyH_done (by kernel_rfl) ?_ _
  obtain ⟨a14, ha14⟩ : ∃ a' : Act, a' = a13.put (some 56) (.bool false) := ⟨_, rfl⟩
  rw [← ha14]
  have sz14 : a14.tmps.size = 121 := by rw [ha14, size_put]; exact sz13
  rw [ha14, ha13, ha12, ha11, ha10, ha9, ha8, ha7, ha6, ha5, ha4, ha3, ha2, ha1]
  exact H vj ue vl ul _ st12
noncomputable def rgOf26 : Code := ((Tryd.f5.body.bind (findReg 26)).getD .skip)
noncomputable def opOf26 : Array Oper := opsOf rgOf26
theorem rgOf26_is : rgOf26 = .region 26 opOf26 true := by kernel_rfl
theorem opOf26_ns : Region.noSelect opOf26 = true := by kernel_rfl
theorem opOf26_0 : opIs opOf26 0 (.load 54 (.tmp 11)) (some 112) := by unfold opIs; kernel_rfl
theorem opOf26_1 : opIs opOf26 1 (.move (.tmp 4)) (some 113) := by unfold opIs; kernel_rfl
theorem opOf26_2 : opIs opOf26 2 (.call { callee := .value (.func 28), args := #[.tmp 113], argTypes := #[51] }) (some 114) := by unfold opIs; kernel_rfl
theorem opOf26_3 : opIs opOf26 3 (.call { callee := .value (.func 27), args := #[.tmp 114], argTypes := #[22] }) (some 115) := by unfold opIs; kernel_rfl
theorem opOf26_4 : opIs opOf26 4 (.binOp .eql 54 (.tmp 112) (.tmp 115) 54) (some 116) := by unfold opIs; kernel_rfl
theorem opOf26_5 : opIs opOf26 5 (.move (.tmp 116)) (some 117) := by unfold opIs; kernel_rfl
theorem opOf26_6 : opIsG opOf26 6 (5, true) (.call { callee := .value (.func 18), args := #[], argTypes := #[] }) (some 118) := by unfold opIsG; kernel_rfl
theorem opOf26_7 : opIs opOf26 7 (.pick (.tmp 117) (.tmp 118) (.const (.bool false))) (some 119) := by unfold opIs; kernel_rfl
theorem opOf26_8 : opIs opOf26 8 (.assign (.tmp 119)) (some 2) := by unfold opIs; kernel_rfl
set_option maxRecDepth 100000 in
set_option maxHeartbeats 4000000 in
theorem Of26 {Q : Exit → Act → World → Prop} {W0 : World} {R0 : World → Prop} {R1 : Value → World → Prop} {R2 : Value → World → Prop} {R3 : Value → World → Prop} {p8 : Nat} {T : List Int} {pv : Value} {a0 : Act} (hT : T.length = 32)
    (sz0 : a0.tmps.size = 121) (e4 : a0.eval (.tmp 4) = pv) (e11 : a0.eval (.tmp 11) = .pointer (some ⟨p8, 0, none⟩))
    (h0 : R0 W0.drew)
    (HS0 : ∀ Y, R0 Y → (fun Y : World => Y.rangeAt p8 0 (T.map (Value.int .u8))) Y)
    (HS1 : ∀ vj : Value, ∀ Y, R1 vj Y → (fun Y : World => Y.rangeAt p8 0 (T.map (Value.int .u8))) Y)
    (HS2 : ∀ vj : Value, ∀ Y, R2 vj Y → (fun Y : World => Y.rangeAt p8 0 (T.map (Value.int .u8))) Y)
    (HS3 : ∀ vj : Value, ∀ Y, R3 vj Y → (fun Y : World => Y.rangeAt p8 0 (T.map (Value.int .u8))) Y)
    (HK0 : Hid (∀ Y, R0 Y → Calls Tryd.prog 28 #[pv] Y fun e w' => ∃ vj : Value, e = .returned (vj) ∧ R1 vj w'))
    (HK1 : Hid (∀ vj : Value, ∀ Y, R1 vj Y → Calls Tryd.prog 27 #[vj] Y fun e w' => e = .returned (.agg (VI .u8 T)) ∧ R2 vj w'))
    (HK2 : Hid (∀ vj : Value, ∀ Y, R2 vj Y → Calls Tryd.prog 18 #[] Y fun e w' => e = .returned (.bool true) ∧ R3 vj w'))
    (HPN : ∀ c (a : Act) d v w, Q (.panic c) (a.put d v) w → Q (.panic c) a w)
    (H : ∀ vj : Value, ∀ Y, R3 vj Y → Q .normal (((((((((a0.put (some 112) (.agg (VI .u8 T))).put (some 113) (pv)).put (some 114) (vj)).put (some 115) (.agg (VI .u8 T))).put (some 116) (.bool true)).put (some 117) (.bool true)).put (some 118) (.bool true)).put (some 119) (.bool true)).put (some 2) (.bool true)) Y) : Code.wp Tryd.prog rgOf26 Q a0 W0 := by
  rw [rgOf26_is]
  refine wp_region_held_drew (S := (fun Y : World => Y.rangeAt p8 0 (T.map (Value.int .u8)))) (by kernel_rfl) (HS0 _ h0) (fun hH => ?_)
  refine wpAnyH_as (l' := #[false, false, false, false, false, false, false, false, false]) (by kernel_rfl) ?_
  have st0 := h0
  refine takeH (v := .agg (VI .u8 T)) opOf26_0 opOf26_ns (by kernel_rfl) (by kernel_rfl) HPN (fun w hw o ho => run_ldK hT ho e11 w hw) (HS0 _ h0) ?_
  refine wpAnyH_as (l' := #[true, false, false, false, false, false, false, false, false]) (by kernel_rfl) ?_
  obtain ⟨a1, ha1⟩ : ∃ a' : Act, a' = a0.put (some 112) (.agg (VI .u8 T)) := ⟨_, rfl⟩
  rw [← ha1]
  have sz1 : a1.tmps.size = 121 := by rw [ha1, size_put]; exact sz0
  have e1_4 : a1.eval (.tmp 4) = pv := by rw [ha1, eval_put_ne _ _ _ _ (by decide)]; exact e4
  have e1_112 : a1.eval (.tmp 112) = .agg (VI .u8 T) := by rw [ha1]; exact eval_put_eq _ _ _ (by rw [sz0]; decide)
  refine takeH (v := pv) opOf26_1 opOf26_ns (by kernel_rfl) (by kernel_rfl) HPN (fun w hw o ho => run_move ho e1_4 w) (HS0 _ h0) ?_
  refine wpAnyH_as (l' := #[true, true, false, false, false, false, false, false, false]) (by kernel_rfl) ?_
  obtain ⟨a2, ha2⟩ : ∃ a' : Act, a' = a1.put (some 113) (pv) := ⟨_, rfl⟩
  rw [← ha2]
  have sz2 : a2.tmps.size = 121 := by rw [ha2, size_put]; exact sz1
  have e2_112 : a2.eval (.tmp 112) = .agg (VI .u8 T) := by rw [ha2, eval_put_ne _ _ _ _ (by decide)]; exact e1_112
  have e2_113 : a2.eval (.tmp 113) = pv := by rw [ha2]; exact eval_put_eq _ _ _ (by rw [sz1]; decide)
  refine readyH opOf26_2 (by kernel_rfl) (fun o ho hd => wpCallX (v := fun vj : Value => vj) ho hd (args := #[pv]) (by simp only [List.map_toArray, List.map_cons, List.map_nil, e2_113] <;> rfl) (fun _ => rfl) (HK0.out  _ st0) (fun vj w3 st3 => ⟨(HS1 vj _ st3), ?_⟩))
  refine wpAnyH_as (l' := #[true, true, true, false, false, false, false, false, false]) (by kernel_rfl) ?_
  obtain ⟨a3, ha3⟩ : ∃ a' : Act, a' = a2.put (some 114) (vj) := ⟨_, rfl⟩
  rw [← ha3]
  have sz3 : a3.tmps.size = 121 := by rw [ha3, size_put]; exact sz2
  have e3_112 : a3.eval (.tmp 112) = .agg (VI .u8 T) := by rw [ha3, eval_put_ne _ _ _ _ (by decide)]; exact e2_112
  have e3_114 : a3.eval (.tmp 114) = vj := by rw [ha3]; exact eval_put_eq _ _ _ (by rw [sz2]; decide)
  refine readyH opOf26_3 (by kernel_rfl) (fun o ho hd => wpCall (v := .agg (VI .u8 T)) ho hd (args := #[vj]) (by simp only [List.map_toArray, List.map_cons, List.map_nil, e3_114] <;> rfl) (fun _ => rfl) (HK1.out vj _ st3) (fun w4 st4 => ⟨(HS2 vj _ st4), ?_⟩))
  refine wpAnyH_as (l' := #[true, true, true, true, false, false, false, false, false]) (by kernel_rfl) ?_
  obtain ⟨a4, ha4⟩ : ∃ a' : Act, a' = a3.put (some 115) (.agg (VI .u8 T)) := ⟨_, rfl⟩
  rw [← ha4]
  have sz4 : a4.tmps.size = 121 := by rw [ha4, size_put]; exact sz3
  have e4_112 : a4.eval (.tmp 112) = .agg (VI .u8 T) := by rw [ha4, eval_put_ne _ _ _ _ (by decide)]; exact e3_112
  have e4_115 : a4.eval (.tmp 115) = .agg (VI .u8 T) := by rw [ha4]; exact eval_put_eq _ _ _ (by rw [sz3]; decide)
  refine takeH (v := .bool true) opOf26_4 opOf26_ns (by kernel_rfl) (by kernel_rfl) HPN (fun w hw o ho => run_eqlK hT ho e4_112 e4_115 w) (HS2 vj _ st4) ?_
  refine wpAnyH_as (l' := #[true, true, true, true, true, false, false, false, false]) (by kernel_rfl) ?_
  obtain ⟨a5, ha5⟩ : ∃ a' : Act, a' = a4.put (some 116) (.bool true) := ⟨_, rfl⟩
  rw [← ha5]
  have sz5 : a5.tmps.size = 121 := by rw [ha5, size_put]; exact sz4
  have e5_116 : a5.eval (.tmp 116) = .bool true := by rw [ha5]; exact eval_put_eq _ _ _ (by rw [sz4]; decide)
  refine takeH (v := .bool true) opOf26_5 opOf26_ns (by kernel_rfl) (by kernel_rfl) HPN (fun w hw o ho => run_move ho e5_116 w) (HS2 vj _ st4) ?_
  refine wpAnyH_as (l' := #[true, true, true, true, true, true, false, false, false]) (by kernel_rfl) ?_
  obtain ⟨a6, ha6⟩ : ∃ a' : Act, a' = a5.put (some 117) (.bool true) := ⟨_, rfl⟩
  rw [← ha6]
  have sz6 : a6.tmps.size = 121 := by rw [ha6, size_put]; exact sz5
  have e6_117 : a6.eval (.tmp 117) = .bool true := by rw [ha6]; exact eval_put_eq _ _ _ (by rw [sz5]; decide)
  refine readyHG opOf26_6 (by kernel_rfl) (wanted_g (ops := opOf26) (j := 5) (d := 117) (by kernel_rfl) e6_117 (by rw [sz6]; decide)) (fun o ho hd => wpCall (v := .bool true) ho hd (args := #[]) (by simp only [List.map_toArray, List.map_nil]) (fun _ => rfl) (HK2.out vj _ st4) (fun w7 st7 => ⟨(HS3 vj _ st7), ?_⟩))
  refine wpAnyH_as (l' := #[true, true, true, true, true, true, true, false, false]) (by kernel_rfl) ?_
  obtain ⟨a7, ha7⟩ : ∃ a' : Act, a' = a6.put (some 118) (.bool true) := ⟨_, rfl⟩
  rw [← ha7]
  have sz7 : a7.tmps.size = 121 := by rw [ha7, size_put]; exact sz6
  have e7_117 : a7.eval (.tmp 117) = .bool true := by rw [ha7, eval_put_ne _ _ _ _ (by decide)]; exact e6_117
  have e7_118 : a7.eval (.tmp 118) = .bool true := by rw [ha7]; exact eval_put_eq _ _ _ (by rw [sz6]; decide)
  refine takeH (v := .bool true) opOf26_7 opOf26_ns (by kernel_rfl) (by kernel_rfl) HPN (fun w hw o ho => run_pick ho e7_117 e7_118 w) (HS3 vj _ st7) ?_
  refine wpAnyH_as (l' := #[true, true, true, true, true, true, true, true, false]) (by kernel_rfl) ?_
  obtain ⟨a8, ha8⟩ : ∃ a' : Act, a' = a7.put (some 119) (.bool true) := ⟨_, rfl⟩
  rw [← ha8]
  have sz8 : a8.tmps.size = 121 := by rw [ha8, size_put]; exact sz7
  have e8_119 : a8.eval (.tmp 119) = .bool true := by rw [ha8]; exact eval_put_eq _ _ _ (by rw [sz7]; decide)
  refine readyH opOf26_8 (by kernel_rfl) (fun o ho hd => wpRun (v := .bool true) (w' := _) hd (run_assign ho e8_119 _) ⟨(HS3 vj _ st7), ?_⟩)
  refine wpAnyH_as (l' := #[true, true, true, true, true, true, true, true, true]) (by kernel_rfl) ?_
  refine wpAnyH_done (by kernel_rfl) ?_ _
  obtain ⟨a9, ha9⟩ : ∃ a' : Act, a' = a8.put (some 2) (.bool true) := ⟨_, rfl⟩
  rw [← ha9]
  have sz9 : a9.tmps.size = 121 := by rw [ha9, size_put]; exact sz8
  rw [ha9, ha8, ha7, ha6, ha5, ha4, ha3, ha2, ha1]
  exact H vj _ st7
end Go.Proofs.YtfkbgodfcnmepaaDoor
namespace Go.Proofs.YtfkbgodfcnmepaaDoor
set_option linter.unusedSimpArgs false
set_option linter.unusedVariables false
open Go.ChangeShapes Go.WideShapes Go.ChangeAt Go.RowKit Go.Pin Go.Str Go.Dig
section
variable {B : Nat} {w : World} {rv : Value} {l : List (Int × Int)} {bx : List (Nat × Obj)} {xs ys : List Value} {v u : Value} {W : World}
theorem TL.hid (h : TL B w rv l bx xs ys v u W) : Hid (TL B w rv l bx xs ys v u W) := h
theorem TL.open_ (h : TL B w rv l bx xs ys v u W) : ∃ b2, Ev B w rv l b2 W ∧ (∀ Z, Ev B w rv l b2 Z → TL B w rv l bx xs ys v u Z) ∧ (∀ p ∈ bx, p ∈ b2) := by
  obtain ⟨l1, l2, h1, h2, h3, h4, h5⟩ := h
  exact ⟨l1 ++ (l2 ++ bx), h3, fun Z hZ => ⟨l1, l2, h1, h2, hZ, h4, h5⟩, fun p hp => List.mem_append_right _ (List.mem_append_right _ hp)⟩
theorem LE.src {v : Value} {A : List Int} (h : LE 5 1 v A.length (A.map (Value.int .u8)) B w rv l bx W) : ∀ cx, Src W.heap.size W cx v A := by
  obtain ⟨lb, h1, h2, _⟩ := h
  exact (h1.src (B := B) (w := w) (fun p hp => List.mem_append_left _ hp)).at_ h2
theorem TL.joinP (h : TL B w rv l bx xs ys v u W) {a : Option Addr} {n cap : Nat} {Ds : List (List Int)} (hP : ∀ b, PSrc B w b a n Ds) (hn : n ≤ 1000) (hl : Ds.flatten.length ≤ 131072) :
    Calls Tryd.prog 28 #[.slice a n cap] W fun e w' => ∃ vj, e = .returned vj ∧ TL B w rv l bx xs ys v u w' ∧ ∀ cx, Src w'.heap.size w' cx vj Ds.flatten := by
  obtain ⟨b2, h1, h2, _⟩ := h.open_
  refine (joined_any (cap := cap) h1 (hP b2) hn hl).mono ?_
  rintro e w' ⟨vj, rfl, hL⟩
  exact ⟨vj, rfl, h2 w' hL.ev, hL.src⟩
theorem TL.lensP (h : TL B w rv l bx xs ys v u W) {a : Option Addr} {n cap : Nat} {Ds : List (List Int)} (hDn : Ds.length = n) (hP : ∀ b, PSrc B w b a n Ds) (hn : n ≤ 1000) :
    Calls Tryd.prog 30 #[.slice a n cap] W fun e w' => ∃ vl, e = .returned vl ∧ TL B w rv l bx xs ys v u w' ∧ ∃ al cl, vl = .slice al n cl ∧ RdN w' al (Ds.map List.length) := by
  obtain ⟨b2, h1, h2, _⟩ := h.open_
  refine (lens_any (cap := cap) h1 (hP b2) hn).mono ?_
  rintro e w' ⟨vl, rfl, hL⟩
  exact ⟨vl, rfl, h2 w' hL.ev, hL.rdn hDn⟩
end
theorem TL.joinL {B : Nat} {w : World} {rv : Value} {l : List (Int × Int)} {bx : List (Nat × Obj)} {K : List (Nat × List Int)} {xs : List Value} {v u : Value} {W : World} (h : TL B w rv l bx xs (K.map prt) v u W) (hr : ∀ p ∈ rbx K, p ∈ bx) (hn : K.length ≤ 1000) (hl : (K.map Prod.snd).flatten.length ≤ 131072) :
    Calls Tryd.prog 28 #[u] W fun e w' => ∃ vj, e = .returned vj ∧ TL B w rv l bx xs (K.map prt) v u w' ∧ ∀ cx, Src w'.heap.size w' cx vj (K.map Prod.snd).flatten := by
  obtain ⟨l1, l2, h1, h2, h3, h4, h5⟩ := h
  obtain ⟨au, cu, hu, hP⟩ := psrc_prt (B := B) (w := w) h2 (by unfold maxLen; omega) (bx := l1 ++ (l2 ++ bx)) (fun p hp => List.mem_append_right _ (List.mem_append_left _ hp)) (fun p hp => List.mem_append_right _ (List.mem_append_right _ (hr p hp)))
  subst hu
  refine (joined_any h3 hP hn hl).mono ?_
  rintro e w' ⟨vj, rfl, hL⟩
  exact ⟨vj, rfl, ⟨l1, l2, h1, h2, hL.ev, h4, h5⟩, hL.src⟩
/-- the cells of both lists, and what they point to -/
theorem TL.cells {B : Nat} {w : World} {rv : Value} {l : List (Int × Int)} {bx : List (Nat × Obj)} {K : List (Nat × List Int)} {v u : Value} {W : World} (h : TL B w rv l bx (K.map whl) (K.map prt) v u W) {n : Nat} (hn : K.length = n) : ∃ a1 c1 a2 c2, v = .slice a1 n c1 ∧ u = .slice a2 n c2 ∧ ∀ i (hi : i < K.length), ∃ g1 g2, a1 = some ⟨g1, 0, none⟩ ∧ a2 = some ⟨g2, 0, none⟩ ∧ ∀ Z, TL B w rv l bx (K.map whl) (K.map prt) v u Z → Z.cell? ⟨g1, i, none⟩ = some (whl K[i]) ∧ Z.cell? ⟨g2, i, none⟩ = some (prt K[i]) := by
  obtain ⟨l1, l2, h1, h2, h3, _⟩ := h
  obtain ⟨a1, c1, e1⟩ := h1.slice'
  obtain ⟨a2, c2, e2⟩ := h2.slice'
  rw [List.length_map, hn] at e1 e2
  refine ⟨a1, c1, a2, c2, e1, e2, fun i hi => ?_⟩
  obtain ⟨g1, d1, k1, _⟩ := h1.at (i := i) (by rw [List.length_map]; exact hi)
  obtain ⟨g2, d2, k2, _⟩ := h2.at (i := i) (by rw [List.length_map]; exact hi)
  rw [e1] at k1
  rw [e2] at k2
  injection k1 with k1 _ _
  injection k2 with k2 _ _
  refine ⟨g1, g2, k1, k2, fun Z hZ => ?_⟩
  obtain ⟨m1, m2, j1, j2, j3, _⟩ := hZ
  obtain ⟨q1, d3, n1, t1⟩ := j1.at (i := i) (by rw [List.length_map]; exact hi)
  obtain ⟨q2, d4, n2, t2⟩ := j2.at (i := i) (by rw [List.length_map]; exact hi)
  rw [e1, k1] at n1
  rw [e2, k2] at n2
  injection n1 with n1 _ _
  injection n2 with n2 _ _
  injection n1 with n1; injection n1 with n1
  injection n2 with n2; injection n2 with n2
  subst n1; subst n2
  have r1 := t1 Z (fun p hp => j3.at' p (List.mem_append_left _ hp))
  have r2 := t2 Z (fun p hp => j3.at' p (List.mem_append_right _ (List.mem_append_left _ hp)))
  rw [List.getElem?_map, List.getElem?_eq_getElem hi, Nat.zero_add] at r1 r2
  exact ⟨r1, r2⟩
theorem olg_len (ns : List Nat) : (olg ns).length ≤ 13 * ns.length + ns.sum + 7 := by
  have := plog_len ns 0 0
  unfold olg
  simp only [List.length_append, List.length_cons, List.length_nil, nlg_nil_len]
  omega
theorem xor_one {x : Int} (h : 0 ≤ x ∧ x < 256) : ∃ y, bits .xor .u8 x 1 = y ∧ 0 ≤ y ∧ y < 256 := by
  obtain ⟨n, rfl⟩ : ∃ n : Nat, x = (n : Int) := ⟨x.toNat, by omega⟩
  obtain ⟨hn, _⟩ : n < 256 ∧ True := ⟨by omega, trivial⟩
  have : ∀ n : Fin 256, 0 ≤ bits .xor .u8 ((n : Nat) : Int) 1 ∧ bits .xor .u8 ((n : Nat) : Int) 1 < 256 := by decide +kernel
  exact ⟨_, rfl, this ⟨n, hn⟩⟩
end Go.Proofs.YtfkbgodfcnmepaaDoor
