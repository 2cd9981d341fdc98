import Derived.Test.YtfkbgodfcnmepaaDoorDmar
import Derived.Test.YtfkbgodfcnmepaaDoorDmal
import Derived.Test.YtfkbgodfcnmepaaDoorDmah
import Derived.Test.YtfkbgodfcnmepaaDoorDmak
namespace Go.Proofs.YtfkbgodfcnmepaaDoor
set_option linter.unusedSimpArgs false
set_option linter.unusedVariables false
open Go.ChangeShapes Go.WideShapes Go.ChangeAt Go.RowKit Go.Pin Go.Str Go.Dig
/-- the plain Hash of the size 32 that has taken A -/
abbrev h32 (A b : List Int) : Obj := hst (.pointer none) 32 (h0 32 0) A b
abbrev k32 (D : List Int) : Obj := .cells (VI .u8 (dig 32 [] D)) 54
theorem h0_32 : S8 (h0 32 0) := h0_s8 (by decide) (by decide)
theorem dig32 (A : List Int) : spl (dgw (h0 32 0) A) 32 = dig 32 [] A := rfl
/-- the state of the cuts: x bytes are written, pieces Ps are gathered -/
def CS (q : Nat) (W : World) (g p7 : Nat) (D : List Int) (x : Nat) (Ps : List (List Int)) (vl : Value) (ex : List (Nat × Obj)) (w' : World) : Prop :=
  ∃ b vs lb, HSb (D.take x) b ∧ Lst 22 1 vl Ps.length vs lb ∧ (∀ j, j < Ps.length → Src q W [] (vs.getD j (.slice none 0 0)) (Ps.getD j [])) ∧ Ev q W (.pointer none) [] (lb ++ ((g, h32 (D.take x) b) :: (p7, k32 D) :: ex)) w' ∧ (∀ p ∈ lb, ∀ r ∈ (g, h32 (D.take x) b) :: (p7, k32 D) :: ex, r.1 ≠ p.1) ∧ (∀ r ∈ (p7, k32 D) :: ex, r.1 ≠ g)
section
variable {q : Nat} {W : World} {g p7 : Nat} {D : List Int} {x : Nat} {Ps : List (List Int)} {vl : Value} {ex : List (Nat × Obj)} {w' : World}
theorem CS.hid (h : CS q W g p7 D x Ps vl ex w') : Hid (CS q W g p7 D x Ps vl ex w') := h
theorem CS.old (h : CS q W g p7 D x Ps vl ex w') : Below q W w' := by obtain ⟨b, vs, lb, _, _, _, h, _⟩ := h; exact h.old
theorem CS.le (h : CS q W g p7 D x Ps vl ex w') : q ≤ w'.heap.size := by obtain ⟨b, vs, lb, _, _, _, h, _⟩ := h; exact h.le
theorem CS.ev (h : CS q W g p7 D x Ps vl ex w') : Ev q W (.pointer none) [] ((p7, k32 D) :: ex) w' := by
  obtain ⟨b, vs, lb, _, _, _, h, _⟩ := h
  exact h.sub (fun p hp => List.mem_append_right _ (memr1 hp))
theorem CS.below {w2 : World} (h : CS q W g p7 D x Ps vl ex w') (hb : Below w'.heap.size w' w2) : CS q W g p7 D x Ps vl ex w2 := by
  obtain ⟨b, vs, lb, h1, h2, h3, h4, h5, h6⟩ := h
  exact ⟨b, vs, lb, h1, h2, h3, h4.below hb, h5, h6⟩
theorem CS.drop {ey : List (Nat × Obj)} (h : CS q W g p7 D x Ps vl ex w') (hs : ∀ p ∈ ey, p ∈ ex) : CS q W g p7 D x Ps vl ey w' := by
  obtain ⟨b, vs, lb, h1, h2, h3, h4, h5, h6⟩ := h
  have hm : ∀ p ∈ (g, h32 (D.take x) b) :: (p7, k32 D) :: ey, p ∈ (g, h32 (D.take x) b) :: (p7, k32 D) :: ex := fun p hp => by
    simp only [List.mem_cons] at hp ⊢
    rcases hp with hp | hp | hp
    · exact .inl hp
    · exact .inr (.inl hp)
    · exact .inr (.inr (hs p hp))
  refine ⟨b, vs, lb, h1, h2, h3, h4.sub (fun p hp => ?_), fun p hp r hr => h5 p hp r (hm r hr), fun r hr => h6 r ?_⟩
  · rcases List.mem_append.1 hp with hp | hp
    · exact List.mem_append_left _ hp
    · exact List.mem_append_right _ (hm p hp)
  · rcases List.mem_cons.1 hr with hr | hr
    · rw [hr]; exact mem0
    · exact memr1 (hs r hr)
theorem CS.app (h : CS q W g p7 D x Ps vl ex w') {a : Option Addr} {m c : Nat} {P : List Int} (hP : Src q W [] (.slice a m c) P) (hn : Ps.length ≤ 1000) (ty : TypeId) :
    ∃ v' w2, (Builtin.append_ #[51, 51] ty #[vl, .slice (some ⟨w'.heap.size, 0, none⟩) 1 1]).run Tryd.prog (w'.alloc (.cells #[.slice a m c] 22)) = .ok v' w2 ∧ CS q W g p7 D x (Ps ++ [P]) v' ex w2 := by
  obtain ⟨b, vs, lb, h0, h1, h2, h3, h4, h5⟩ := h
  have h3' := h3.below (w' := w'.alloc (.cells #[.slice a m c] 22)) ((Below.refl _ _).alloc (Nat.le_refl _) _)
  obtain ⟨v', w2, hr, lb', hL, he, hd⟩ := h3'.appS h1 h4 ty (heap_alloc_new w' _) hn
  refine ⟨v', w2, hr, b, vs ++ [.slice a m c], lb', h0, by rw [List.length_append]; exact hL, fun j hj => ?_, he, hd, h5⟩
  have hvl : vs.length = Ps.length := by have := h1.1; omega
  rw [List.length_append] at hj
  by_cases hjl : j < Ps.length
  · have := h2 j hjl
    rw [List.getD_eq_getElem?_getD, List.getElem?_append_left (by omega), ← List.getD_eq_getElem?_getD, List.getD_eq_getElem?_getD (l := Ps ++ [P]), List.getElem?_append_left hjl, ← List.getD_eq_getElem?_getD]
    exact this
  · have hj' : j = Ps.length := by simp at hj; omega
    subst hj'
    rw [List.getD_eq_getElem?_getD, List.getElem?_append_right (by omega), List.getD_eq_getElem?_getD, List.getElem?_append_right (Nat.le_refl _), hvl]
    simpa using hP
theorem CS.front (h : CS q W g p7 D x Ps vl ex w') : ∃ b vs lb, HSb (D.take x) b ∧ Lst 22 1 vl Ps.length vs lb ∧ (∀ j, j < Ps.length → Src q W [] (vs.getD j (.slice none 0 0)) (Ps.getD j [])) ∧ Ev q W (.pointer none) [] ((g, h32 (D.take x) b) :: (lb ++ ((p7, k32 D) :: ex))) w' ∧ (∀ p ∈ lb, ∀ r ∈ (g, h32 (D.take x) b) :: (p7, k32 D) :: ex, r.1 ≠ p.1) ∧ (∀ r ∈ (p7, k32 D) :: ex, r.1 ≠ g) ∧ (∀ p ∈ lb ++ ((p7, k32 D) :: ex), p.1 ≠ g) := by
  obtain ⟨b, vs, lb, h0, h1, h2, h3, h4, h5⟩ := h
  refine ⟨b, vs, lb, h0, h1, h2, h3.sub (fun p hp => ?_), h4, h5, fun p hp => ?_⟩
  · simp only [List.mem_cons, List.mem_append] at hp ⊢
    rcases hp with hp | hp | hp | hp
    · exact .inr (.inl hp)
    · exact .inl hp
    · exact .inr (.inr (.inl hp))
    · exact .inr (.inr (.inr hp))
  · rcases List.mem_append.1 hp with hp | hp
    · exact fun e => h4 p hp _ mem0 e.symm
    · exact h5 p hp
theorem front_back {q : Nat} {W : World} {A : List (Nat × Obj)} {o : Nat × Obj} {C : List (Nat × Obj)} {l : List (Int × Int)} {rv : Value} {w' : World} (h : Ev q W rv l (o :: (A ++ C)) w') : Ev q W rv l (A ++ (o :: C)) w' := h.sub (fun p hp => by
  simp only [List.mem_cons, List.mem_append] at hp ⊢
  rcases hp with hp | hp | hp
  · exact .inr (.inl hp)
  · exact .inl hp
  · exact .inr (.inr hp))
theorem CS.write (h : CS q W g p7 D x Ps vl ex w') (hB : Beg W) (h2q : 2 ≤ q) (hD : Byt D) (hDl : D.length ≤ 131072) {y : Nat} {u : Value} {P : List Int} (hP : Src q W [] u P) (hxy : D.take x ++ P = D.take y) :
    Calls Tryd.prog 23 #[.pointer (some ⟨g, 0, none⟩), u] w' fun e w2 => e = .returned (.tuple #[]) ∧ CS q W g p7 D y Ps vl ex w2 := by
  obtain ⟨b, vs, lb, h0, h1, h2, h3, h4, h5, h6⟩ := h.front
  have hyl : (D.take x).length + P.length ≤ 131072 := by
    have := congrArg List.length hxy
    simp only [List.length_append, List.length_take] at this ⊢
    omega
  have hPb : Byt P := fun z hz => by
    have : z ∈ D.take y := by rw [← hxy]; exact List.mem_append_right _ hz
    exact hD z (List.mem_of_mem_take this)
  refine (dwrite_src h0 h3 h0_32 (fun h => absurd rfl h) h6 (hP.sub (by simp)) hPb (by omega) hB h2q).mono ?_
  rintro e w2 ⟨rfl, b2, k1, k2⟩
  rw [hxy] at k1 k2
  refine ⟨rfl, b2, vs, lb, k1, h1, h2, front_back (k2.nilOf []), fun p hp r hr => ?_, h5⟩
  rcases List.mem_cons.1 hr with rfl | hr
  · have := h4 p hp (g, h32 (D.take x) b) mem0
    exact this
  · exact h4 p hp r (memr1 hr)
theorem CS.sum (h : CS q W g p7 D x Ps vl ex w') (hB : Beg W) (h2q : 2 ≤ q) (hDl : D.length ≤ 131072) :
    Calls Tryd.prog 22 #[.pointer (some ⟨g, 0, none⟩)] w' fun e w2 => ∃ g2, e = .returned (.slice (some ⟨g2, 0, none⟩) 32 32) ∧ CS q W g p7 D x Ps vl ((g2, .cells (VI .u8 (dig 32 [] (D.take x))) 5) :: ex) w2 := by
  obtain ⟨b, vs, lb, h0, h1, h2, h3, h4, h5, h6⟩ := h.front
  have hxl : (D.take x).length ≤ 131072 := by rw [List.length_take]; omega
  refine (dsum_any h0 h3 h0_32 (by decide) (fun h => absurd rfl h) h6 (by omega) hB h2q).mono ?_
  rintro e w2 ⟨g2, rfl, k1, k2⟩
  refine ⟨g2, rfl, b, vs, lb, h0, h1, h2, (k2.sub (fun p hp => ?_)).nilOf [], fun p hp r hr => ?_, fun r hr => ?_⟩
  · simp only [List.mem_cons, List.mem_append] at hp ⊢
    rcases hp with hp | hp | hp | hp | hp
    · exact .inr (.inr (.inl hp))
    · exact .inr (.inl hp)
    · exact .inr (.inr (.inr (.inl hp)))
    · exact .inl hp
    · exact .inr (.inr (.inr (.inr hp)))
  · simp only [List.mem_cons] at hr
    rcases hr with rfl | rfl | rfl | hr
    · exact h4 p hp _ mem0
    · exact h4 p hp _ mem1
    · exact fun e => k1 p (memr1 (List.mem_append_left _ hp)) e.symm
    · exact h4 p hp r (memr2 hr)
  · simp only [List.mem_cons] at hr
    rcases hr with rfl | rfl | hr
    · exact h5 _ mem0
    · exact fun e => k1 _ mem0 e.symm
    · exact h5 r (memr1 hr)
theorem CS.of (h : CS q W g p7 D x Ps vl ex w') (hB : Beg W) (h2q : 2 ≤ q) (hBl : BytL Ps) (hn : Ps.length ≤ 1000) (hl : Ps.flatten.length ≤ 131072) :
    Calls Tryd.prog 26 #[.pointer none, vl] w' fun e w2 => e = .returned (.agg (VI .u8 (dig 32 [] Ps.flatten))) ∧ CS q W g p7 D x Ps vl ex w2 := by
  obtain ⟨b, vs, lb, h0, h1, h2, h3, h4, h5⟩ := h
  obtain ⟨a, cap, rfl, hp⟩ : ∃ a cap, vl = .slice a Ps.length cap ∧ PSrc q W (lb ++ ((g, h32 (D.take x) b) :: (p7, k32 D) :: ex)) a Ps.length Ps := by
    rcases h1.2 with ⟨e1, e2, _⟩ | ⟨gl, cap, cur, e1, e2, e3, e4, e5, e6⟩
    · exact ⟨none, 0, by rw [e1, e2], ⟨rfl, by unfold maxLen; omega⟩, fun j hj => by omega⟩
    · refine ⟨_, cap, e1, ⟨rfl, by unfold maxLen; omega⟩, fun j hj => ⟨gl, 0, vs.getD j (.slice none 0 0), rfl, fun Y _ hq => ?_, (h2 j hj).sub (by simp)⟩⟩
      have hrow := hq (gl, .cells cur 22 (0, 0)) (List.mem_append_left _ (by rw [e2]; exact mem0))
      rw [cell_of_row Y _ _ _ _ _ hrow, Nat.zero_add]
      have hjc : j < cur.size := by omega
      have hvl : vs.length = Ps.length := by have := h1.1; omega
      have : vs[j]? = cur[j]? := by
        rw [← e6, List.getElem?_take_of_lt (by omega)]
        simp
      rw [← this, List.getD_eq_getElem?_getD, List.getElem?_eq_getElem (by omega)]
      rfl
  refine (dof_any h3 hp hBl (fun h => absurd rfl h) (by omega) hB h2q).mono ?_
  rintro e w2 ⟨rfl, h6⟩
  exact ⟨rfl, b, vs, lb, h0, h1, h2, h6.nilOf [], h4, h5⟩
end
end Go.Proofs.YtfkbgodfcnmepaaDoor
namespace Go.Proofs.YtfkbgodfcnmepaaDoor
set_option linter.unusedSimpArgs false
set_option linter.unusedVariables false
open Go.ChangeShapes Go.WideShapes Go.ChangeAt Go.RowKit Go.Pin Go.Str Go.Dig
def opIsG (ops : Array Oper) (i : Nat) (gd : Nat × Bool) (op : Op) (d : Option Nat) : Prop := (ops[i]?).map (fun o => (o.guard, o.op, o.dst)) = some (some gd, op, d)
theorem opIsG.get {ops : Array Oper} {i : Nat} {gd : Nat × Bool} {op : Op} {d : Option Nat} (h : opIsG ops i gd op d) : ∃ o, ops[i]? = some o ∧ o.guard = some gd ∧ o.op = op ∧ o.dst = d := by
  obtain ⟨o, h1, h5⟩ := Option.map_eq_some_iff.1 h
  simp only [Prod.mk.injEq] at h5
  exact ⟨o, h1, h5.1, h5.2.1, h5.2.2⟩
/-- the operation on which another one hangs has said yes -/
theorem wanted_g {ops : Array Oper} {j d : Nat} {a : Act} (hd : (ops[j]?).bind (·.dst) = some d) (he : a.eval (.tmp d) = .bool true) (hs : d < a.tmps.size) : yielded ops a.tmps j = some true := by
  unfold yielded
  rw [hd]
  simp only [Act.eval, Array.getD_eq_getD_getElem?] at he
  simp only [Option.bind_some]
  rw [Array.getElem?_eq_getElem hs] at he ⊢
  simp only [Option.getD_some] at he
  rw [he]
section
variable {P : Program} {ops : Array Oper} {Q : Exit → Act → World → Prop} {S : World → Prop} {fuel : Nat} {listed : Array Bool} {a : Act} {w : World}
theorem takeHG {i j : Nat} {op : Op} {d : Nat} {v : Value} (hc : opIsG ops i (j, true) op (some d)) (hs : Region.noSelect ops = true) (hf : Region.free .any ops listed i = true) (hr : (Region.ready .any ops listed).contains i = true) (hy : yielded ops a.tmps j = some true)
    (hQ : ∀ c (a : Act) d v w, Q (.panic c) (a.put d v) w → Q (.panic c) a w) (hrun : ∀ w, S w → ∀ o : Oper, o.op = op → (execOp a.eval o).run P w = .ok (.value v) w) (hS : S w)
    (h : wpAnyH P .any ops Q S fuel (listed.setIfInBounds i true) (a.put (some d) v) w) : wpAnyH P .any ops Q S (fuel + 1) listed a w := by
  obtain ⟨o, h1, h2, h3, h4⟩ := hc.get
  exact wpAnyH_take h1 hs hf hr (fun _ _ _ h => hQ _ _ _ _ _ h) (.inl ⟨by simp [Region.wanted, h2, hy], fun w hw => hrun w hw o h3⟩) hS (by rw [h4]; exact h)
theorem readyHG {i j : Nat} {op : Op} {d : Option Nat} (hc : opIsG ops i (j, true) op d) (hr : Region.ready .any ops listed = [i]) (hy : yielded ops a.tmps j = some true)
    (h : ∀ o : Oper, o.op = op → o.dst = d → Oper.wp P o a w (fun a' w' => S w' ∧ wpAnyH P .any ops Q S fuel (listed.setIfInBounds i true) a' w') Q) : wpAnyH P .any ops Q S (fuel + 1) listed a w := by
  obtain ⟨o, h1, h2, h3, h4⟩ := hc.get
  refine wpAnyH_all hr (by simp) (fun j' hj => ?_)
  obtain rfl : j' = i := by simpa using hj
  unfold wpOp
  simp only [h1]
  rw [if_pos (by simp [Region.wanted, h2, hy])]
  exact .inl (h o h3 h4)
end
section
variable {a : Act} {o : Oper} {x y z : Operand}
theorem run_pick {v : Value} (ho : o.op = .pick x y z) (hx : a.eval x = .bool true) (hy : a.eval y = v) (w : World) : (execOp a.eval o).run Tryd.prog w = .ok (.value v) w := by
  unfold execOp
  simp only [ho, hx, hy]
  go_simp
theorem run_slK {g : Nat} (ho : o.op = .slice 54 x none none none) (he : a.eval x = .pointer (some ⟨g, 0, none⟩)) (w : World) : (execOp a.eval o).run Tryd.prog w = .ok (.value (.slice (some ⟨g, 0, none⟩) 32 32)) w := by
  unfold execOp
  simp only [ho, he]
  go_simp
end
noncomputable def rgCu29 : Code := ((Tryd.f8.body.bind (findReg 29)).getD .skip)
noncomputable def opCu29 : Array Oper := opsOf rgCu29
theorem rgCu29_is : rgCu29 = .region 29 opCu29 true := by kernel_rfl
theorem opCu29_ns : Region.noSelect opCu29 = true := by kernel_rfl
theorem opCu29_0 : opIs opCu29 0 (.move (.tmp 12)) (some 132) := by unfold opIs; kernel_rfl
theorem opCu29_1 : opIs opCu29 1 (.call { callee := .value (.func 22), args := #[.tmp 132], argTypes := #[26] }) (some 133) := by unfold opIs; kernel_rfl
theorem opCu29_2 : opIs opCu29 2 (.slice 54 (.tmp 5) none none none) (some 134) := by unfold opIs; kernel_rfl
theorem opCu29_3 : opIs opCu29 3 (.call { callee := .value (.func 21), args := #[.tmp 133, .tmp 134], argTypes := #[22, 22] }) (some 135) := by unfold opIs; kernel_rfl
theorem opCu29_4 : opIs opCu29 4 (.move (.tmp 135)) (some 136) := by unfold opIs; kernel_rfl
theorem opCu29_5 : opIsG opCu29 5 (4, true) (.call { callee := .value (.func 18), args := #[], argTypes := #[] }) (some 137) := by unfold opIsG; kernel_rfl
theorem opCu29_6 : opIs opCu29 6 (.pick (.tmp 136) (.tmp 137) (.const (.bool false))) (some 138) := by unfold opIs; kernel_rfl
theorem opCu29_7 : opIs opCu29 7 (.assign (.tmp 138)) (some 4) := by unfold opIs; kernel_rfl
set_option maxRecDepth 100000 in
set_option maxHeartbeats 4000000 in
theorem Cu29 {Q : Exit → Act → World → Prop} {W0 : World} {R0 : World → Prop} {R1 : Value → World → Prop} {R2 : Value → World → Prop} {R3 : Value → World → Prop} {g p7 : Nat} {a0 : Act} 
    (sz0 : a0.tmps.size = 139) (e12 : a0.eval (.tmp 12) = .pointer (some ⟨g, 0, none⟩)) (e5 : a0.eval (.tmp 5) = .pointer (some ⟨p7, 0, none⟩))
    (h0 : R0 W0.drew)
    (HK0 : Hid (∀ Y, R0 Y → Calls Tryd.prog 22 #[.pointer (some ⟨g, 0, none⟩)] Y fun e w' => ∃ u : Value, e = .returned (u) ∧ R1 u w'))
    (HK1 : Hid (∀ u : Value, ∀ Y, R1 u Y → Calls Tryd.prog 21 #[u, .slice (some ⟨p7, 0, none⟩) 32 32] Y fun e w' => e = .returned (.bool true) ∧ R2 u w'))
    (HK2 : Hid (∀ u : Value, ∀ Y, R2 u Y → Calls Tryd.prog 18 #[] Y fun e w' => e = .returned (.bool true) ∧ R3 u w'))
    (HPN : ∀ c (a : Act) d v w, Q (.panic c) (a.put d v) w → Q (.panic c) a w)
    (H : ∀ u : Value, ∀ Y, R3 u Y → Q .normal ((((((((a0.put (some 132) (.pointer (some ⟨g, 0, none⟩))).put (some 134) (.slice (some ⟨p7, 0, none⟩) 32 32)).put (some 133) (u)).put (some 135) (.bool true)).put (some 136) (.bool true)).put (some 137) (.bool true)).put (some 138) (.bool true)).put (some 4) (.bool true)) Y) : Code.wp Tryd.prog rgCu29 Q a0 W0 := by
  rw [rgCu29_is]
  refine wp_region_held_drew (S := (fun _ : World => True)) (by kernel_rfl) trivial (fun hH => ?_)
  refine wpAnyH_as (l' := #[false, false, false, false, false, false, false, false]) (by kernel_rfl) ?_
  have st0 := h0
  refine takeH (v := .pointer (some ⟨g, 0, none⟩)) opCu29_0 opCu29_ns (by kernel_rfl) (by kernel_rfl) HPN (fun w hw o ho => run_move ho e12 w) trivial ?_
  refine wpAnyH_as (l' := #[true, false, false, false, false, false, false, false]) (by kernel_rfl) ?_
  obtain ⟨a1, ha1⟩ : ∃ a' : Act, a' = a0.put (some 132) (.pointer (some ⟨g, 0, none⟩)) := ⟨_, rfl⟩
  rw [← ha1]
  have sz1 : a1.tmps.size = 139 := by rw [ha1, size_put]; exact sz0
  have e1_5 : a1.eval (.tmp 5) = .pointer (some ⟨p7, 0, none⟩) := by rw [ha1, eval_put_ne _ _ _ _ (by decide)]; exact e5
  have e1_132 : a1.eval (.tmp 132) = .pointer (some ⟨g, 0, none⟩) := by rw [ha1]; exact eval_put_eq _ _ _ (by rw [sz0]; decide)
  refine takeH (v := .slice (some ⟨p7, 0, none⟩) 32 32) opCu29_2 opCu29_ns (by kernel_rfl) (by kernel_rfl) HPN (fun w hw o ho => run_slK ho e1_5 w) trivial ?_
  refine wpAnyH_as (l' := #[true, false, true, false, false, false, false, false]) (by kernel_rfl) ?_
  obtain ⟨a2, ha2⟩ : ∃ a' : Act, a' = a1.put (some 134) (.slice (some ⟨p7, 0, none⟩) 32 32) := ⟨_, rfl⟩
  rw [← ha2]
  have sz2 : a2.tmps.size = 139 := by rw [ha2, size_put]; exact sz1
  have e2_132 : a2.eval (.tmp 132) = .pointer (some ⟨g, 0, none⟩) := by rw [ha2, eval_put_ne _ _ _ _ (by decide)]; exact e1_132
  have e2_134 : a2.eval (.tmp 134) = .slice (some ⟨p7, 0, none⟩) 32 32 := by rw [ha2]; exact eval_put_eq _ _ _ (by rw [sz1]; decide)
  refine readyH opCu29_1 (by kernel_rfl) (fun o ho hd => wpCallX (v := fun u : Value => u) ho hd (args := #[.pointer (some ⟨g, 0, none⟩)]) (by simp only [List.map_toArray, List.map_cons, List.map_nil, e2_132] <;> rfl) (fun _ => rfl) (HK0.out  _ st0) (fun u w3 st3 => ⟨trivial, ?_⟩))
  refine wpAnyH_as (l' := #[true, true, true, false, false, false, false, false]) (by kernel_rfl) ?_
  obtain ⟨a3, ha3⟩ : ∃ a' : Act, a' = a2.put (some 133) (u) := ⟨_, rfl⟩
  rw [← ha3]
  have sz3 : a3.tmps.size = 139 := by rw [ha3, size_put]; exact sz2
  have e3_134 : a3.eval (.tmp 134) = .slice (some ⟨p7, 0, none⟩) 32 32 := by rw [ha3, eval_put_ne _ _ _ _ (by decide)]; exact e2_134
  have e3_133 : a3.eval (.tmp 133) = u := by rw [ha3]; exact eval_put_eq _ _ _ (by rw [sz2]; decide)
  refine readyH opCu29_3 (by kernel_rfl) (fun o ho hd => wpCall (v := .bool true) ho hd (args := #[u, .slice (some ⟨p7, 0, none⟩) 32 32]) (by simp only [List.map_toArray, List.map_cons, List.map_nil, e3_133, e3_134] <;> rfl) (fun _ => rfl) (HK1.out u _ st3) (fun w4 st4 => ⟨trivial, ?_⟩))
  refine wpAnyH_as (l' := #[true, true, true, true, false, false, false, false]) (by kernel_rfl) ?_
  obtain ⟨a4, ha4⟩ : ∃ a' : Act, a' = a3.put (some 135) (.bool true) := ⟨_, rfl⟩
  rw [← ha4]
  have sz4 : a4.tmps.size = 139 := by rw [ha4, size_put]; exact sz3
  have e4_135 : a4.eval (.tmp 135) = .bool true := by rw [ha4]; exact eval_put_eq _ _ _ (by rw [sz3]; decide)
  refine takeH (v := .bool true) opCu29_4 opCu29_ns (by kernel_rfl) (by kernel_rfl) HPN (fun w hw o ho => run_move ho e4_135 w) trivial ?_
  refine wpAnyH_as (l' := #[true, true, true, true, true, false, false, false]) (by kernel_rfl) ?_
  obtain ⟨a5, ha5⟩ : ∃ a' : Act, a' = a4.put (some 136) (.bool true) := ⟨_, rfl⟩
  rw [← ha5]
  have sz5 : a5.tmps.size = 139 := by rw [ha5, size_put]; exact sz4
  have e5_136 : a5.eval (.tmp 136) = .bool true := by rw [ha5]; exact eval_put_eq _ _ _ (by rw [sz4]; decide)
  refine readyHG opCu29_5 (by kernel_rfl) (wanted_g (ops := opCu29) (j := 4) (d := 136) (by kernel_rfl) e5_136 (by rw [sz5]; decide)) (fun o ho hd => wpCall (v := .bool true) ho hd (args := #[]) (by simp only [List.map_toArray, List.map_nil]) (fun _ => rfl) (HK2.out u _ st4) (fun w6 st6 => ⟨trivial, ?_⟩))
  refine wpAnyH_as (l' := #[true, true, true, true, true, true, false, false]) (by kernel_rfl) ?_
  obtain ⟨a6, ha6⟩ : ∃ a' : Act, a' = a5.put (some 137) (.bool true) := ⟨_, rfl⟩
  rw [← ha6]
  have sz6 : a6.tmps.size = 139 := by rw [ha6, size_put]; exact sz5
  have e6_136 : a6.eval (.tmp 136) = .bool true := by rw [ha6, eval_put_ne _ _ _ _ (by decide)]; exact e5_136
  have e6_137 : a6.eval (.tmp 137) = .bool true := by rw [ha6]; exact eval_put_eq _ _ _ (by rw [sz5]; decide)
  refine takeH (v := .bool true) opCu29_6 opCu29_ns (by kernel_rfl) (by kernel_rfl) HPN (fun w hw o ho => run_pick ho e6_136 e6_137 w) trivial ?_
  refine wpAnyH_as (l' := #[true, true, true, true, true, true, true, false]) (by kernel_rfl) ?_
  obtain ⟨a7, ha7⟩ : ∃ a' : Act, a' = a6.put (some 138) (.bool true) := ⟨_, rfl⟩
  rw [← ha7]
  have sz7 : a7.tmps.size = 139 := by rw [ha7, size_put]; exact sz6
  have e7_138 : a7.eval (.tmp 138) = .bool true := by rw [ha7]; exact eval_put_eq _ _ _ (by rw [sz6]; decide)
  refine readyH opCu29_7 (by kernel_rfl) (fun o ho hd => wpRun (v := .bool true) (w' := _) hd (run_assign ho e7_138 _) ⟨trivial, ?_⟩)
  refine wpAnyH_as (l' := #[true, true, true, true, true, true, true, true]) (by kernel_rfl) ?_
  refine wpAnyH_done (by kernel_rfl) ?_ _
  obtain ⟨a8, ha8⟩ : ∃ a' : Act, a' = a7.put (some 4) (.bool true) := ⟨_, rfl⟩
  rw [← ha8]
  have sz8 : a8.tmps.size = 139 := by rw [ha8, size_put]; exact sz7
  rw [ha8, ha7, ha6, ha5, ha4, ha3, ha2, ha1]
  exact H u _ st6
end Go.Proofs.YtfkbgodfcnmepaaDoor
namespace Go.Proofs.YtfkbgodfcnmepaaDoor
set_option linter.unusedSimpArgs false
set_option linter.unusedVariables false
open Go.ChangeShapes Go.WideShapes Go.ChangeAt Go.RowKit Go.Pin Go.Str Go.Dig Go.Deep
theorem open_ri {H : Type} {enc : TypeId × Value → H} {W : World} {a : Option Addr} {len cap : Nat} {d : DataW H} {p : List MemPlace}
    (h : DataW.Trod enc Tryd.prog W 0 (fun _ => true) true 59 (.slice a len cap) d p) : ∃ C : List Int, C.length = len ∧ (∀ x ∈ C, -9223372036854775808 ≤ x ∧ x < 9223372036854775808) ∧ RdI W a C ∧ len ≤ maxLen := by
  obtain ⟨fuel, hf⟩ := h
  rcases open_ints Tryd.underlying59 Tryd.underlying3 (by kernel_rfl) hf with ⟨hcs, _⟩ | ⟨x, l, c, zs, hcs, _, hl, hm, hz, hx, hcell, hwz⟩
  · simp [Value.cells] at hcs
    obtain ⟨rfl, rfl, rfl⟩ := hcs
    exact ⟨[], rfl, by simp, .inl rfl, Nat.zero_le _⟩
  · simp [Value.cells] at hcs
    obtain ⟨rfl, rfl, rfl⟩ := hcs
    have hz' : zs.length = cap := by simpa using hz
    have hl2 : (zs.take len).length = len := by rw [List.length_take]; omega
    refine ⟨zs.take len, hl2, fun y hy => i64_of (hwz y (List.mem_of_mem_take hy)), ?_, by omega⟩
    by_cases e : len = 0
    · left; subst e; simp
    · right
      obtain ⟨b, o, rfl⟩ := add_spot (hcell 0 (by omega))
      refine ⟨b, o, rfl, fun j hj => ?_⟩
      rw [hl2] at hj
      have := hcell j (by omega)
      rw [add_mid] at this
      rw [this]
      simp [List.getD, List.getElem?_take_of_lt hj]
end Go.Proofs.YtfkbgodfcnmepaaDoor
