import Derived.Test.YtfkbgodfcnmepaaDoorDmas
import Derived.Test.YtfkbgodfcnmepaaDoorDmah
import Derived.Test.YtfkbgodfcnmepaaDoorDmak
namespace Go.Proofs.YtfkbgodfcnmepaaDoor
set_option linter.unusedSimpArgs false
set_option linter.unusedVariables false
open Go.ChangeShapes Go.WideShapes Go.ChangeAt Go.RowKit Go.Pin Go.Str Go.Dig
def opIsG (ops : Array Oper) (i : Nat) (gd : Nat × Bool) (op : Op) (d : Option Nat) : Prop := (ops[i]?).map (fun o => (o.guard, o.op, o.dst)) = some (some gd, op, d)
theorem opIsG.get {ops : Array Oper} {i : Nat} {gd : Nat × Bool} {op : Op} {d : Option Nat} (h : opIsG ops i gd op d) : ∃ o, ops[i]? = some o ∧ o.guard = some gd ∧ o.op = op ∧ o.dst = d := by
  obtain ⟨o, h1, h5⟩ := Option.map_eq_some_iff.1 h
  simp only [Prod.mk.injEq] at h5
  exact ⟨o, h1, h5.1, h5.2.1, h5.2.2⟩
/-- the operation on which another one hangs has said yes -/
theorem wanted_g {ops : Array Oper} {j d : Nat} {a : Act} (hd : (ops[j]?).bind (·.dst) = some d) (he : a.eval (.tmp d) = .bool true) (hs : d < a.tmps.size) : yielded ops a.tmps j = some true := by
  unfold yielded
  rw [hd]
  simp only [Act.eval, Array.getD_eq_getD_getElem?] at he
  simp only [Option.bind_some]
  rw [Array.getElem?_eq_getElem hs] at he ⊢
  simp only [Option.getD_some] at he
  rw [he]
section
variable {P : Program} {ops : Array Oper} {Q : Exit → Act → World → Prop} {S : World → Prop} {fuel : Nat} {listed : Array Bool} {a : Act} {w : World}
theorem takeHG {i j : Nat} {op : Op} {d : Nat} {v : Value} (hc : opIsG ops i (j, true) op (some d)) (hs : Region.noSelect ops = true) (hf : Region.free .any ops listed i = true) (hr : (Region.ready .any ops listed).contains i = true) (hy : yielded ops a.tmps j = some true)
    (hQ : ∀ c (a : Act) d v w, Q (.panic c) (a.put d v) w → Q (.panic c) a w) (hrun : ∀ w, S w → ∀ o : Oper, o.op = op → (execOp a.eval o).run P w = .ok (.value v) w) (hS : S w)
    (h : wpAnyH P .any ops Q S fuel (listed.setIfInBounds i true) (a.put (some d) v) w) : wpAnyH P .any ops Q S (fuel + 1) listed a w := by
  obtain ⟨o, h1, h2, h3, h4⟩ := hc.get
  exact wpAnyH_take h1 hs hf hr (fun _ _ _ h => hQ _ _ _ _ _ h) (.inl ⟨by simp [Region.wanted, h2, hy], fun w hw => hrun w hw o h3⟩) hS (by rw [h4]; exact h)
theorem readyHG {i j : Nat} {op : Op} {d : Option Nat} (hc : opIsG ops i (j, true) op d) (hr : Region.ready .any ops listed = [i]) (hy : yielded ops a.tmps j = some true)
    (h : ∀ o : Oper, o.op = op → o.dst = d → Oper.wp P o a w (fun a' w' => S w' ∧ wpAnyH P .any ops Q S fuel (listed.setIfInBounds i true) a' w') Q) : wpAnyH P .any ops Q S (fuel + 1) listed a w := by
  obtain ⟨o, h1, h2, h3, h4⟩ := hc.get
  refine wpAnyH_all hr (by simp) (fun j' hj => ?_)
  obtain rfl : j' = i := by simpa using hj
  unfold wpOp
  simp only [h1]
  rw [if_pos (by simp [Region.wanted, h2, hy])]
  exact .inl (h o h3 h4)
end
section
variable {a : Act} {o : Oper} {x y z : Operand}
theorem run_pick {v : Value} (ho : o.op = .pick x y z) (hx : a.eval x = .bool true) (hy : a.eval y = v) (w : World) : (execOp a.eval o).run Tryd.prog w = .ok (.value v) w := by
  unfold execOp
  simp only [ho, hx, hy]
  go_simp
theorem run_slK {g : Nat} (ho : o.op = .slice 54 x none none none) (he : a.eval x = .pointer (some ⟨g, 0, none⟩)) (w : World) : (execOp a.eval o).run Tryd.prog w = .ok (.value (.slice (some ⟨g, 0, none⟩) 32 32)) w := by
  unfold execOp
  simp only [ho, he]
  go_simp
end
noncomputable def rgCu29 : Code := ((Tryd.f8.body.bind (findReg 29)).getD .skip)
noncomputable def opCu29 : Array Oper := opsOf rgCu29
theorem rgCu29_is : rgCu29 = .region 29 opCu29 true := by kernel_rfl
theorem opCu29_ns : Region.noSelect opCu29 = true := by kernel_rfl
theorem opCu29_0 : opIs opCu29 0 (.move (.tmp 12)) (some 132) := by unfold opIs; kernel_rfl
theorem opCu29_1 : opIs opCu29 1 (.call { callee := .value (.func 22), args := #[.tmp 132], argTypes := #[26] }) (some 133) := by unfold opIs; kernel_rfl
theorem opCu29_2 : opIs opCu29 2 (.slice 54 (.tmp 5) none none none) (some 134) := by unfold opIs; kernel_rfl
theorem opCu29_3 : opIs opCu29 3 (.call { callee := .value (.func 21), args := #[.tmp 133, .tmp 134], argTypes := #[22, 22] }) (some 135) := by unfold opIs; kernel_rfl
theorem opCu29_4 : opIs opCu29 4 (.move (.tmp 135)) (some 136) := by unfold opIs; kernel_rfl
theorem opCu29_5 : opIsG opCu29 5 (4, true) (.call { callee := .value (.func 18), args := #[], argTypes := #[] }) (some 137) := by unfold opIsG; kernel_rfl
theorem opCu29_6 : opIs opCu29 6 (.pick (.tmp 136) (.tmp 137) (.const (.bool false))) (some 138) := by unfold opIs; kernel_rfl
theorem opCu29_7 : opIs opCu29 7 (.assign (.tmp 138)) (some 4) := by unfold opIs; kernel_rfl
set_option maxRecDepth 100000 in
set_option maxHeartbeats 4000000 in
theorem Cu29 {Q : Exit → Act → World → Prop} {W0 : World} {R0 : World → Prop} {R1 : Value → World → Prop} {R2 : Value → World → Prop} {R3 : Value → World → Prop} {g p7 : Nat} {a0 : Act} 
    (sz0 : a0.tmps.size = 139) (e12 : a0.eval (.tmp 12) = .pointer (some ⟨g, 0, none⟩)) (e5 : a0.eval (.tmp 5) = .pointer (some ⟨p7, 0, none⟩))
    (h0 : R0 W0.drew)
    (HK0 : Hid (∀ Y, R0 Y → Calls Tryd.prog 22 #[.pointer (some ⟨g, 0, none⟩)] Y fun e w' => ∃ u : Value, e = .returned (u) ∧ R1 u w'))
    (HK1 : Hid (∀ u : Value, ∀ Y, R1 u Y → Calls Tryd.prog 21 #[u, .slice (some ⟨p7, 0, none⟩) 32 32] Y fun e w' => e = .returned (.bool true) ∧ R2 u w'))
    (HK2 : Hid (∀ u : Value, ∀ Y, R2 u Y → Calls Tryd.prog 18 #[] Y fun e w' => e = .returned (.bool true) ∧ R3 u w'))
    (HPN : ∀ c (a : Act) d v w, Q (.panic c) (a.put d v) w → Q (.panic c) a w)
    (H : ∀ u : Value, ∀ Y, R3 u Y → Q .normal ((((((((a0.put (some 132) (.pointer (some ⟨g, 0, none⟩))).put (some 134) (.slice (some ⟨p7, 0, none⟩) 32 32)).put (some 133) (u)).put (some 135) (.bool true)).put (some 136) (.bool true)).put (some 137) (.bool true)).put (some 138) (.bool true)).put (some 4) (.bool true)) Y) : Code.wp Tryd.prog rgCu29 Q a0 W0 := by
  rw [rgCu29_is]
  refine wp_region_held_drew (S := (fun _ : World => True)) (by kernel_rfl) trivial (fun hH => ?_)
  refine wpAnyH_as (l' := #[false, false, false, false, false, false, false, false]) (by kernel_rfl) ?_
  have st0 := h0
  refine takeH (v := .pointer (some ⟨g, 0, none⟩)) opCu29_0 opCu29_ns (by kernel_rfl) (by kernel_rfl) HPN (fun w hw o ho => run_move ho e12 w) trivial ?_
  refine wpAnyH_as (l' := #[true, false, false, false, false, false, false, false]) (by kernel_rfl) ?_
  obtain ⟨a1, ha1⟩ : ∃ a' : Act, a' = a0.put (some 132) (.pointer (some ⟨g, 0, none⟩)) := ⟨_, rfl⟩
  rw [← ha1]
  have sz1 : a1.tmps.size = 139 := by rw [ha1, size_put]; exact sz0
  have e1_5 : a1.eval (.tmp 5) = .pointer (some ⟨p7, 0, none⟩) := by rw [ha1, eval_put_ne _ _ _ _ (by decide)]; exact e5
  have e1_132 : a1.eval (.tmp 132) = .pointer (some ⟨g, 0, none⟩) := by rw [ha1]; exact eval_put_eq _ _ _ (by rw [sz0]; decide)
  refine takeH (v := .slice (some ⟨p7, 0, none⟩) 32 32) opCu29_2 opCu29_ns (by kernel_rfl) (by kernel_rfl) HPN (fun w hw o ho => run_slK ho e1_5 w) trivial ?_
  refine wpAnyH_as (l' := #[true, false, true, false, false, false, false, false]) (by kernel_rfl) ?_
  obtain ⟨a2, ha2⟩ : ∃ a' : Act, a' = a1.put (some 134) (.slice (some ⟨p7, 0, none⟩) 32 32) := ⟨_, rfl⟩
  rw [← ha2]
  have sz2 : a2.tmps.size = 139 := by rw [ha2, size_put]; exact sz1
  have e2_132 : a2.eval (.tmp 132) = .pointer (some ⟨g, 0, none⟩) := by rw [ha2, eval_put_ne _ _ _ _ (by decide)]; exact e1_132
  have e2_134 : a2.eval (.tmp 134) = .slice (some ⟨p7, 0, none⟩) 32 32 := by rw [ha2]; exact eval_put_eq _ _ _ (by rw [sz1]; decide)
  refine readyH opCu29_1 (by kernel_rfl) (fun o ho hd => wpCallX (v := fun u : Value => u) ho hd (args := #[.pointer (some ⟨g, 0, none⟩)]) (by simp only [List.map_toArray, List.map_cons, List.map_nil, e2_132] <;> rfl) (fun _ => rfl) (HK0.out  _ st0) (fun u w3 st3 => ⟨trivial, ?_⟩))
  refine wpAnyH_as (l' := #[true, true, true, false, false, false, false, false]) (by kernel_rfl) ?_
  obtain ⟨a3, ha3⟩ : ∃ a' : Act, a' = a2.put (some 133) (u) := ⟨_, rfl⟩
  rw [← ha3]
  have sz3 : a3.tmps.size = 139 := by rw [ha3, size_put]; exact sz2
  have e3_134 : a3.eval (.tmp 134) = .slice (some ⟨p7, 0, none⟩) 32 32 := by rw [ha3, eval_put_ne _ _ _ _ (by decide)]; exact e2_134
  have e3_133 : a3.eval (.tmp 133) = u := by rw [ha3]; exact eval_put_eq _ _ _ (by rw [sz2]; decide)
  refine readyH opCu29_3 (by kernel_rfl) (fun o ho hd => wpCall (v := .bool true) ho hd (args := #[u, .slice (some ⟨p7, 0, none⟩) 32 32]) (by simp only [List.map_toArray, List.map_cons, List.map_nil, e3_133, e3_134] <;> rfl) (fun _ => rfl) (HK1.out u _ st3) (fun w4 st4 => ⟨trivial, ?_⟩))
  refine wpAnyH_as (l' := #[true, true, true, true, false, false, false, false]) (by kernel_rfl) ?_
  obtain ⟨a4, ha4⟩ : ∃ a' : Act, a' = a3.put (some 135) (.bool true) := ⟨_, rfl⟩
  rw [← ha4]
  have sz4 : a4.tmps.size = 139 := by rw [ha4, size_put]; exact sz3
  have e4_135 : a4.eval (.tmp 135) = .bool true := by rw [ha4]; exact eval_put_eq _ _ _ (by rw [sz3]; decide)
  refine takeH (v := .bool true) opCu29_4 opCu29_ns (by kernel_rfl) (by kernel_rfl) HPN (fun w hw o ho => run_move ho e4_135 w) trivial ?_
  refine wpAnyH_as (l' := #[true, true, true, true, true, false, false, false]) (by kernel_rfl) ?_
  obtain ⟨a5, ha5⟩ : ∃ a' : Act, a' = a4.put (some 136) (.bool true) := ⟨_, rfl⟩
  rw [← ha5]
  have sz5 : a5.tmps.size = 139 := by rw [ha5, size_put]; exact sz4
  have e5_136 : a5.eval (.tmp 136) = .bool true := by rw [ha5]; exact eval_put_eq _ _ _ (by rw [sz4]; decide)
  refine readyHG opCu29_5 (by kernel_rfl) (wanted_g (ops := opCu29) (j := 4) (d := 136) (by kernel_rfl) e5_136 (by rw [sz5]; decide)) (fun o ho hd => wpCall (v := .bool true) ho hd (args := #[]) (by simp only [List.map_toArray, List.map_nil]) (fun _ => rfl) (HK2.out u _ st4) (fun w6 st6 => ⟨trivial, ?_⟩))
  refine wpAnyH_as (l' := #[true, true, true, true, true, true, false, false]) (by kernel_rfl) ?_
  obtain ⟨a6, ha6⟩ : ∃ a' : Act, a' = a5.put (some 137) (.bool true) := ⟨_, rfl⟩
  rw [← ha6]
  have sz6 : a6.tmps.size = 139 := by rw [ha6, size_put]; exact sz5
  have e6_136 : a6.eval (.tmp 136) = .bool true := by rw [ha6, eval_put_ne _ _ _ _ (by decide)]; exact e5_136
  have e6_137 : a6.eval (.tmp 137) = .bool true := by rw [ha6]; exact eval_put_eq _ _ _ (by rw [sz5]; decide)
  refine takeH (v := .bool true) opCu29_6 opCu29_ns (by kernel_rfl) (by kernel_rfl) HPN (fun w hw o ho => run_pick ho e6_136 e6_137 w) trivial ?_
  refine wpAnyH_as (l' := #[true, true, true, true, true, true, true, false]) (by kernel_rfl) ?_
  obtain ⟨a7, ha7⟩ : ∃ a' : Act, a' = a6.put (some 138) (.bool true) := ⟨_, rfl⟩
  rw [← ha7]
  have sz7 : a7.tmps.size = 139 := by rw [ha7, size_put]; exact sz6
  have e7_138 : a7.eval (.tmp 138) = .bool true := by rw [ha7]; exact eval_put_eq _ _ _ (by rw [sz6]; decide)
  refine readyH opCu29_7 (by kernel_rfl) (fun o ho hd => wpRun (v := .bool true) (w' := _) hd (run_assign ho e7_138 _) ⟨trivial, ?_⟩)
  refine wpAnyH_as (l' := #[true, true, true, true, true, true, true, true]) (by kernel_rfl) ?_
  refine wpAnyH_done (by kernel_rfl) ?_ _
  obtain ⟨a8, ha8⟩ : ∃ a' : Act, a' = a7.put (some 4) (.bool true) := ⟨_, rfl⟩
  rw [← ha8]
  have sz8 : a8.tmps.size = 139 := by rw [ha8, size_put]; exact sz7
  rw [ha8, ha7, ha6, ha5, ha4, ha3, ha2, ha1]
  exact H u _ st6
end Go.Proofs.YtfkbgodfcnmepaaDoor
namespace Go.Proofs.YtfkbgodfcnmepaaDoor
set_option linter.unusedSimpArgs false
set_option linter.unusedVariables false
open Go.ChangeShapes Go.WideShapes Go.ChangeAt Go.RowKit Go.Pin Go.Str Go.Dig Go.Deep
theorem open_ri {H : Type} {enc : TypeId × Value → H} {W : World} {a : Option Addr} {len cap : Nat} {d : DataW H} {p : List MemPlace}
    (h : DataW.Trod enc Tryd.prog W 0 (fun _ => true) true 59 (.slice a len cap) d p) : ∃ C : List Int, C.length = len ∧ (∀ x ∈ C, -9223372036854775808 ≤ x ∧ x < 9223372036854775808) ∧ RdI W a C ∧ len ≤ maxLen := by
  obtain ⟨fuel, hf⟩ := h
  rcases open_ints Tryd.underlying59 Tryd.underlying3 (by kernel_rfl) hf with ⟨hcs, _⟩ | ⟨x, l, c, zs, hcs, _, hl, hm, hz, hx, hcell, hwz⟩
  · simp [Value.cells] at hcs
    obtain ⟨rfl, rfl, rfl⟩ := hcs
    exact ⟨[], rfl, by simp, .inl rfl, Nat.zero_le _⟩
  · simp [Value.cells] at hcs
    obtain ⟨rfl, rfl, rfl⟩ := hcs
    have hz' : zs.length = cap := by simpa using hz
    have hl2 : (zs.take len).length = len := by rw [List.length_take]; omega
    refine ⟨zs.take len, hl2, fun y hy => i64_of (hwz y (List.mem_of_mem_take hy)), ?_, by omega⟩
    by_cases e : len = 0
    · left; subst e; simp
    · right
      obtain ⟨b, o, rfl⟩ := add_spot (hcell 0 (by omega))
      refine ⟨b, o, rfl, fun j hj => ?_⟩
      rw [hl2] at hj
      have := hcell j (by omega)
      rw [add_mid] at this
      rw [this]
      simp [List.getD, List.getElem?_take_of_lt hj]
end Go.Proofs.YtfkbgodfcnmepaaDoor
