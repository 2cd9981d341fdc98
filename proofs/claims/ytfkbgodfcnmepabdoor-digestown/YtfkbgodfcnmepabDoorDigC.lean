import Derived.Test.YtfkbgodfcnmepabDoorDigB
namespace Go.Proofs.YtfkbgodfcnmepabDoor
set_option linter.unusedSimpArgs false
set_option linter.unusedVariables false
open Go.ChangeShapes Go.WideShapes Go.ChangeAt Go.RowKit Go.Pin Go.Str Go.Dig
theorem getD_set_ne (l : List Nat) (i j v : Nat) (h : i ≠ j) : (l.set i v).getD j 0 = l.getD j 0 := by simp [List.getD, List.getElem?_set_ne h]
theorem getD_set_eq (l : List Nat) (i v : Nat) (h : i < l.length) : (l.set i v).getD i 0 = v := by simp [List.getD, List.getElem?_set_self h]
theorem sets8 (L : List Nat) (i j k m a1 d1 c1 b1 a2 d2 c2 b2 : Nat) (hij : i ≠ j) (hik : i ≠ k) (him : i ≠ m) (hjk : j ≠ k) (hjm : j ≠ m) (hkm : k ≠ m) :
    (((((((L.set i a1).set m d1).set k c1).set j b1).set i a2).set m d2).set k c2).set j b2 = (((L.set i a2).set j b2).set k c2).set m d2 := by
  apply List.ext_getElem (by simp)
  intro p h1 h2
  simp only [List.getElem_set]
  by_cases e1 : i = p
  · subst e1; simp [hij, hik, him, Ne.symm hij, Ne.symm hik, Ne.symm him]
  · by_cases e2 : j = p
    · subst e2; simp [e1, Ne.symm hjk, Ne.symm hjm]
    · by_cases e3 : k = p
      · subst e3; simp [e1, e2, Ne.symm hkm]
      · by_cases e4 : m = p <;> simp [e1, e2, e3, e4]
/-- a box of words -/
abbrev RW (w : World) (g : Nat) (L : List Nat) (T : TypeId) : Prop := w.heap[g]? = some (.cells (VN .u32 L) T (0, 0))
theorem RW.cell {w : World} {g : Nat} {L : List Nat} {T : TypeId} (h : RW w g L T) {i : Nat} (hi : i < L.length) : w.cell? ⟨g, i, none⟩ = some (.int .u32 ((L.getD i 0 : Nat) : Int)) := by
  rw [cell_of_row _ _ _ _ _ _ h, VN_at _ _ _ hi]
theorem RW.froz {w : World} {g : Nat} {L : List Nat} {T : TypeId} (h : RW w g L T) (i : Nat) : w.frozen? ⟨g, i, none⟩ = false := frozen_of_row w _ _ _ _ h
theorem RW.set {w : World} {g : Nat} {L : List Nat} {T : TypeId} (h : RW w g L T) (i v : Nat) : RW (w.setCell ⟨g, i, none⟩ (.int .u32 (v : Int))) g (L.set i v) T := by
  unfold RW at h ⊢
  rw [← VN_set]
  simp [World.setCell, Array.getElem?_modify, h]
/-- four cells of a box -/
structure Q4 (g i j k m : Nat) (w : World) (a b c d : Nat) : Prop where
  A : w.cell? ⟨g, i, none⟩ = some (.int .u32 (a : Int))
  B : w.cell? ⟨g, j, none⟩ = some (.int .u32 (b : Int))
  C : w.cell? ⟨g, k, none⟩ = some (.int .u32 (c : Int))
  D : w.cell? ⟨g, m, none⟩ = some (.int .u32 (d : Int))
  F : ∀ o, w.frozen? ⟨g, o, none⟩ = false
theorem cs_same {w : World} {p : Addr} {u : Value} (h : w.cell? p = some u) (v : Value) : (w.setCell p v).cell? p = some v := World.cell?_setCell_same _ _ _ h
theorem cs_other {w : World} {g i j : Nat} {u : Value} (h : w.cell? ⟨g, j, none⟩ = some u) (v : Value) (hn : i ≠ j) : (w.setCell ⟨g, i, none⟩ v).cell? ⟨g, j, none⟩ = some u := by
  rw [World.cell?_setCell_other _ _ _ _ (by simp [hn])]; exact h
section
variable {g i j k m : Nat} {w : World} {a b c d : Nat}
theorem Q4.sA (h : Q4 g i j k m w a b c d) (hij : i ≠ j) (hik : i ≠ k) (him : i ≠ m) (v : Nat) : Q4 g i j k m (w.setCell ⟨g, i, none⟩ (.int .u32 (v : Int))) v b c d :=
  ⟨cs_same h.A _, cs_other h.B _ hij, cs_other h.C _ hik, cs_other h.D _ him, fun o => by rw [World.frozen?_setCell]; exact h.F o⟩
theorem Q4.sB (h : Q4 g i j k m w a b c d) (hij : i ≠ j) (hjk : j ≠ k) (hjm : j ≠ m) (v : Nat) : Q4 g i j k m (w.setCell ⟨g, j, none⟩ (.int .u32 (v : Int))) a v c d :=
  ⟨cs_other h.A _ (Ne.symm hij), cs_same h.B _, cs_other h.C _ hjk, cs_other h.D _ hjm, fun o => by rw [World.frozen?_setCell]; exact h.F o⟩
theorem Q4.sC (h : Q4 g i j k m w a b c d) (hik : i ≠ k) (hjk : j ≠ k) (hkm : k ≠ m) (v : Nat) : Q4 g i j k m (w.setCell ⟨g, k, none⟩ (.int .u32 (v : Int))) a b v d :=
  ⟨cs_other h.A _ (Ne.symm hik), cs_other h.B _ (Ne.symm hjk), cs_same h.C _, cs_other h.D _ hkm, fun o => by rw [World.frozen?_setCell]; exact h.F o⟩
theorem Q4.sD (h : Q4 g i j k m w a b c d) (him : i ≠ m) (hjm : j ≠ m) (hkm : k ≠ m) (v : Nat) : Q4 g i j k m (w.setCell ⟨g, m, none⟩ (.int .u32 (v : Int))) a b c v :=
  ⟨cs_other h.A _ (Ne.symm him), cs_other h.B _ (Ne.symm hjm), cs_other h.C _ (Ne.symm hkm), cs_same h.D _, fun o => by rw [World.frozen?_setCell]; exact h.F o⟩
end
theorem wrap32 (a b : Nat) : IntKind.u32.wrap ((a : Int) + (b : Int)) = ((ad a b : Nat) : Int) := by
  rw [IntKind.wrap_u32']; unfold ad; omega
set_option maxRecDepth 100000 in
set_option maxHeartbeats 4000000 in
theorem mix_any (g i j k m x y : Nat) (hx : x < 4294967296) (hy : y < 4294967296) (L : List Nat) (T : TypeId) (w : World) (h : RW w g L T) (hL : W32 L) (hi : i < L.length) (hj : j < L.length) (hk : k < L.length) (hm : m < L.length)
    (hij : i ≠ j) (hik : i ≠ k) (him : i ≠ m) (hjk : j ≠ k) (hjm : j ≠ m) (hkm : k ≠ m) :
    Calls Tryd.prog 47 #[.pointer (some ⟨g, i, none⟩), .pointer (some ⟨g, j, none⟩), .pointer (some ⟨g, k, none⟩), .pointer (some ⟨g, m, none⟩), .int .u32 (x : Int), .int .u32 (y : Int)] w fun e w' => e = .returned (.tuple #[]) ∧ But (fun x => x = g) w w' ∧ RW w' g (mat L i j k m x y) T := by
  have xb := hL.at j
  have xd := hL.at m
  have Q0 : Q4 g i j k m w _ _ _ _ := ⟨h.cell hi, h.cell hj, h.cell hk, h.cell hm, fun o => h.froz o⟩
  rw [show mat L i j k m x y = (((L.set i (mx (L.getD i 0) (L.getD j 0) (L.getD k 0) (L.getD m 0) x y).1).set j (mx (L.getD i 0) (L.getD j 0) (L.getD k 0) (L.getD m 0) x y).2.1).set k (mx (L.getD i 0) (L.getD j 0) (L.getD k 0) (L.getD m 0) x y).2.2.1).set m (mx (L.getD i 0) (L.getD j 0) (L.getD k 0) (L.getD m 0) x y).2.2.2 from rfl]
  generalize L.getD i 0 = a at *
  generalize L.getD j 0 = b at *
  generalize L.getD k 0 = c at *
  generalize L.getD m 0 = d at *
  unfold mx
  dsimp only
  have p0 := wrap32 b x
  generalize ad b x = bx at *
  have ra1 := ad_lt a bx
  have p1 := wrap32 a bx
  generalize ad a bx = a1 at *
  have q1 := u32_xor_nat d a1 xd ra1
  have rd1 := rot_lt _ 16 (by decide) (xor_lt xd ra1)
  have t1 := rotr16 _ (xor_lt xd ra1)
  generalize d ^^^ a1 = y1 at *
  generalize rot y1 16 = d1 at *
  have rc1 := ad_lt c d1
  have p2 := wrap32 c d1
  generalize ad c d1 = c1 at *
  have q2 := u32_xor_nat b c1 xb rc1
  have rb1 := rot_lt _ 20 (by decide) (xor_lt xb rc1)
  have t2 := rotr12 _ (xor_lt xb rc1)
  generalize b ^^^ c1 = y2 at *
  generalize rot y2 20 = b1 at *
  have p5 := wrap32 b1 y
  generalize ad b1 y = by1 at *
  have ra2 := ad_lt a1 by1
  have p3 := wrap32 a1 by1
  generalize ad a1 by1 = a2 at *
  have q3 := u32_xor_nat d1 a2 rd1 ra2
  have rd2 := rot_lt _ 24 (by decide) (xor_lt rd1 ra2)
  have t3 := rotr8 _ (xor_lt rd1 ra2)
  generalize d1 ^^^ a2 = y3 at *
  generalize rot y3 24 = d2 at *
  have rc2 := ad_lt c1 d2
  have p4 := wrap32 c1 d2
  generalize ad c1 d2 = c2 at *
  have q4 := u32_xor_nat b1 c2 rb1 rc2
  have t4 := rotr7 _ (xor_lt rb1 rc2)
  generalize b1 ^^^ c2 = y4 at *
  generalize rot y4 25 = b2 at *
  rw [← sets8 L i j k m a1 d1 c1 b1 a2 d2 c2 b2 hij hik him hjk hjm hkm]
  have T1 : Hid _ := t1
  have T2 : Hid _ := t2
  have T3 : Hid _ := t3
  have T4 : Hid _ := t4
  have H : Hid (RW w g L T) := h
  clear t1 t2 t3 t4 h hL ra1 rd1 rc1 rb1 ra2 rd2 rc2 xb xd
  have HB : Hid (But (fun x => x = g) w w ∧ RW w g L T) := ⟨But.refl _ _, H.out⟩
  have A0 := Q0.A
  have B0 := Q0.B
  have F0 := Q0.F
  have Q1 := Q0.sA hij hik him a1
  have HB1 : Hid (But (fun x => x = g) w (w.setCell ⟨g, i, none⟩ (.int .u32 (a1 : Int))) ∧ RW (w.setCell ⟨g, i, none⟩ (.int .u32 (a1 : Int))) g ((L).set i a1) T) := ⟨(HB.out.1).setCell rfl _, (HB.out.2).set _ _⟩
  obtain ⟨W1, e1⟩ : ∃ W, w.setCell ⟨g, i, none⟩ (.int .u32 (a1 : Int)) = W := ⟨_, rfl⟩
  rw [e1] at Q1 HB1
  have D1 := Q1.D
  have A1 := Q1.A
  have F1 := Q1.F
  have Q2 := Q1.sD him hjm hkm d1
  have HB2 : Hid (But (fun x => x = g) w (W1.setCell ⟨g, m, none⟩ (.int .u32 (d1 : Int))) ∧ RW (W1.setCell ⟨g, m, none⟩ (.int .u32 (d1 : Int))) g (((L).set i a1).set m d1) T) := ⟨(HB1.out.1).setCell rfl _, (HB1.out.2).set _ _⟩
  obtain ⟨W2, e2⟩ : ∃ W, W1.setCell ⟨g, m, none⟩ (.int .u32 (d1 : Int)) = W := ⟨_, rfl⟩
  rw [e2] at Q2 HB2
  have C2 := Q2.C
  have D2 := Q2.D
  have F2 := Q2.F
  have Q3 := Q2.sC hik hjk hkm c1
  have HB3 : Hid (But (fun x => x = g) w (W2.setCell ⟨g, k, none⟩ (.int .u32 (c1 : Int))) ∧ RW (W2.setCell ⟨g, k, none⟩ (.int .u32 (c1 : Int))) g ((((L).set i a1).set m d1).set k c1) T) := ⟨(HB2.out.1).setCell rfl _, (HB2.out.2).set _ _⟩
  obtain ⟨W3, e3⟩ : ∃ W, W2.setCell ⟨g, k, none⟩ (.int .u32 (c1 : Int)) = W := ⟨_, rfl⟩
  rw [e3] at Q3 HB3
  have B3 := Q3.B
  have C3 := Q3.C
  have F3 := Q3.F
  have Q4 := Q3.sB hij hjk hjm b1
  have HB4 : Hid (But (fun x => x = g) w (W3.setCell ⟨g, j, none⟩ (.int .u32 (b1 : Int))) ∧ RW (W3.setCell ⟨g, j, none⟩ (.int .u32 (b1 : Int))) g (((((L).set i a1).set m d1).set k c1).set j b1) T) := ⟨(HB3.out.1).setCell rfl _, (HB3.out.2).set _ _⟩
  obtain ⟨W4, e4⟩ : ∃ W, W3.setCell ⟨g, j, none⟩ (.int .u32 (b1 : Int)) = W := ⟨_, rfl⟩
  rw [e4] at Q4 HB4
  have A4 := Q4.A
  have B4 := Q4.B
  have F4 := Q4.F
  have Q5 := Q4.sA hij hik him a2
  have HB5 : Hid (But (fun x => x = g) w (W4.setCell ⟨g, i, none⟩ (.int .u32 (a2 : Int))) ∧ RW (W4.setCell ⟨g, i, none⟩ (.int .u32 (a2 : Int))) g ((((((L).set i a1).set m d1).set k c1).set j b1).set i a2) T) := ⟨(HB4.out.1).setCell rfl _, (HB4.out.2).set _ _⟩
  obtain ⟨W5, e5⟩ : ∃ W, W4.setCell ⟨g, i, none⟩ (.int .u32 (a2 : Int)) = W := ⟨_, rfl⟩
  rw [e5] at Q5 HB5
  have D5 := Q5.D
  have A5 := Q5.A
  have F5 := Q5.F
  have Q6 := Q5.sD him hjm hkm d2
  have HB6 : Hid (But (fun x => x = g) w (W5.setCell ⟨g, m, none⟩ (.int .u32 (d2 : Int))) ∧ RW (W5.setCell ⟨g, m, none⟩ (.int .u32 (d2 : Int))) g (((((((L).set i a1).set m d1).set k c1).set j b1).set i a2).set m d2) T) := ⟨(HB5.out.1).setCell rfl _, (HB5.out.2).set _ _⟩
  obtain ⟨W6, e6⟩ : ∃ W, W5.setCell ⟨g, m, none⟩ (.int .u32 (d2 : Int)) = W := ⟨_, rfl⟩
  rw [e6] at Q6 HB6
  have C6 := Q6.C
  have D6 := Q6.D
  have F6 := Q6.F
  have Q7 := Q6.sC hik hjk hkm c2
  have HB7 : Hid (But (fun x => x = g) w (W6.setCell ⟨g, k, none⟩ (.int .u32 (c2 : Int))) ∧ RW (W6.setCell ⟨g, k, none⟩ (.int .u32 (c2 : Int))) g ((((((((L).set i a1).set m d1).set k c1).set j b1).set i a2).set m d2).set k c2) T) := ⟨(HB6.out.1).setCell rfl _, (HB6.out.2).set _ _⟩
  obtain ⟨W7, e7⟩ : ∃ W, W6.setCell ⟨g, k, none⟩ (.int .u32 (c2 : Int)) = W := ⟨_, rfl⟩
  rw [e7] at Q7 HB7
  have B7 := Q7.B
  have C7 := Q7.C
  have F7 := Q7.F
  have Q8 := Q7.sB hij hjk hjm b2
  have HB8 : Hid (But (fun x => x = g) w (W7.setCell ⟨g, j, none⟩ (.int .u32 (b2 : Int))) ∧ RW (W7.setCell ⟨g, j, none⟩ (.int .u32 (b2 : Int))) g (((((((((L).set i a1).set m d1).set k c1).set j b1).set i a2).set m d2).set k c2).set j b2) T) := ⟨(HB7.out.1).setCell rfl _, (HB7.out.2).set _ _⟩
  obtain ⟨W8, e8⟩ : ∃ W, W7.setCell ⟨g, j, none⟩ (.int .u32 (b2 : Int)) = W := ⟨_, rfl⟩
  rw [e8] at Q8 HB8
  clear Q0 Q1 Q2 Q3 Q4 Q5 Q6 Q7 Q8 HB HB1 HB2 HB3 HB4 HB5 HB6 HB7 H
  clear hi hj hk hm hij hik him hjk hjm hkm
  go_enter Tryd.func47, Tryd.ntmps47
  go_wp2
  go_region
  go_wp2
  go_cut [] (fun wx => W2.drew.drew = wx)
  case first =>
    go_region_with (go_at_call 48; refine (T1.out _).mono ?_; rintro e w' ⟨rfl, rfl⟩)
    all_goals (go_wp2_with fail; go_meet; rfl)
  subst hcut
  go_wp2
  go_region
  go_wp2
  go_cut [] (fun wx => W4.drew.drew.drew.drew = wx)
  case first =>
    go_region_with (go_at_call 48; refine (T2.out _).mono ?_; rintro e w' ⟨rfl, rfl⟩)
    all_goals (go_wp2_with fail; go_meet; rfl)
  subst hcut
  go_wp2
  go_region
  go_wp2
  go_cut [] (fun wx => W6.drew.drew.drew.drew.drew.drew = wx)
  case first =>
    go_region_with (go_at_call 48; refine (T3.out _).mono ?_; rintro e w' ⟨rfl, rfl⟩)
    all_goals (go_wp2_with fail; go_meet; rfl)
  subst hcut
  go_wp2
  go_region
  go_wp2
  go_region_with (go_at_call 48; refine (T4.out _).mono ?_; rintro e w' ⟨rfl, rfl⟩)
  all_goals (go_wp2; go_end0; exact ⟨rfl, HB8.out.1.drew.drew.drew.drew.drew.drew.drew.drew, HB8.out.2⟩)
end Go.Proofs.YtfkbgodfcnmepabDoor
