import Derived.BigRegion
import Derived.BigQuiet
import Derived.Test.YtfkbgodfcnmepaaDoorDmaa
namespace Go.Proofs.YtfkbgodfcnmepaaDoor
set_option linter.unusedSimpArgs false
set_option linter.unusedVariables false
open Go.ChangeShapes Go.WideShapes Go.ChangeAt Go.RowKit Go.Pin Go.Str Go.Dig
set_option maxRecDepth 100000 in
theorem rotr16 (x : Nat) (hx : x < 4294967296) (w : World) :
    Calls Tryd.prog 74 #[.int .u32 (x : Int), .int .i64 (-16)] w fun e w' => e = .returned (.int .u32 ((rot x 16 : Nat) : Int)) ∧ w' = w := by
  have hb : bits BinOp.and IntKind.u64 (IntKind.u64.wrap (-16)) 31 = 16 := by decide
  have hs := rot_or x 16 (by decide) hx
  have ho : bits BinOp.or IntKind.u32 (((x * 2 ^ 16 % 4294967296 : Nat)) : Int) (((x / 2 ^ (32 - 16) : Nat)) : Int) = ((rot x 16 : Nat) : Int) := by
    rw [u32_or_nat _ _ (Nat.mod_lt _ (by decide)) (Nat.lt_of_le_of_lt (Nat.div_le_self _ _) hx), hs]
  have HO : Hid _ := ho
  clear hs ho
  go_enter Tryd.func74, Tryd.ntmps74
  go_wp2
  go_ret
  refine ⟨ret_int (Eq.trans ?_ HO.out), rfl⟩
  congr 1
  all_goals (try simp [IntKind.wrap_u32'])
set_option maxRecDepth 100000 in
theorem rotr12 (x : Nat) (hx : x < 4294967296) (w : World) :
    Calls Tryd.prog 74 #[.int .u32 (x : Int), .int .i64 (-12)] w fun e w' => e = .returned (.int .u32 ((rot x 20 : Nat) : Int)) ∧ w' = w := by
  have hb : bits BinOp.and IntKind.u64 (IntKind.u64.wrap (-12)) 31 = 20 := by decide
  have hs := rot_or x 20 (by decide) hx
  have ho : bits BinOp.or IntKind.u32 (((x * 2 ^ 20 % 4294967296 : Nat)) : Int) (((x / 2 ^ (32 - 20) : Nat)) : Int) = ((rot x 20 : Nat) : Int) := by
    rw [u32_or_nat _ _ (Nat.mod_lt _ (by decide)) (Nat.lt_of_le_of_lt (Nat.div_le_self _ _) hx), hs]
  have HO : Hid _ := ho
  clear hs ho
  go_enter Tryd.func74, Tryd.ntmps74
  go_wp2
  go_ret
  refine ⟨ret_int (Eq.trans ?_ HO.out), rfl⟩
  congr 1
  all_goals (try simp [IntKind.wrap_u32'])
set_option maxRecDepth 100000 in
theorem rotr8 (x : Nat) (hx : x < 4294967296) (w : World) :
    Calls Tryd.prog 74 #[.int .u32 (x : Int), .int .i64 (-8)] w fun e w' => e = .returned (.int .u32 ((rot x 24 : Nat) : Int)) ∧ w' = w := by
  have hb : bits BinOp.and IntKind.u64 (IntKind.u64.wrap (-8)) 31 = 24 := by decide
  have hs := rot_or x 24 (by decide) hx
  have ho : bits BinOp.or IntKind.u32 (((x * 2 ^ 24 % 4294967296 : Nat)) : Int) (((x / 2 ^ (32 - 24) : Nat)) : Int) = ((rot x 24 : Nat) : Int) := by
    rw [u32_or_nat _ _ (Nat.mod_lt _ (by decide)) (Nat.lt_of_le_of_lt (Nat.div_le_self _ _) hx), hs]
  have HO : Hid _ := ho
  clear hs ho
  go_enter Tryd.func74, Tryd.ntmps74
  go_wp2
  go_ret
  refine ⟨ret_int (Eq.trans ?_ HO.out), rfl⟩
  congr 1
  all_goals (try simp [IntKind.wrap_u32'])
set_option maxRecDepth 100000 in
theorem rotr7 (x : Nat) (hx : x < 4294967296) (w : World) :
    Calls Tryd.prog 74 #[.int .u32 (x : Int), .int .i64 (-7)] w fun e w' => e = .returned (.int .u32 ((rot x 25 : Nat) : Int)) ∧ w' = w := by
  have hb : bits BinOp.and IntKind.u64 (IntKind.u64.wrap (-7)) 31 = 25 := by decide
  have hs := rot_or x 25 (by decide) hx
  have ho : bits BinOp.or IntKind.u32 (((x * 2 ^ 25 % 4294967296 : Nat)) : Int) (((x / 2 ^ (32 - 25) : Nat)) : Int) = ((rot x 25 : Nat) : Int) := by
    rw [u32_or_nat _ _ (Nat.mod_lt _ (by decide)) (Nat.lt_of_le_of_lt (Nat.div_le_self _ _) hx), hs]
  have HO : Hid _ := ho
  clear hs ho
  go_enter Tryd.func74, Tryd.ntmps74
  go_wp2
  go_ret
  refine ⟨ret_int (Eq.trans ?_ HO.out), rfl⟩
  congr 1
  all_goals (try simp [IntKind.wrap_u32'])
end Go.Proofs.YtfkbgodfcnmepaaDoor
namespace Go.Proofs.YtfkbgodfcnmepaaDoor
set_option linter.unusedSimpArgs false
set_option linter.unusedVariables false
open Go.ChangeShapes Go.WideShapes Go.ChangeAt Go.RowKit Go.Pin Go.Str Go.Dig
theorem getD_set_ne (l : List Nat) (i j v : Nat) (h : i ≠ j) : (l.set i v).getD j 0 = l.getD j 0 := by simp [List.getD, List.getElem?_set_ne h]
theorem getD_set_eq (l : List Nat) (i v : Nat) (h : i < l.length) : (l.set i v).getD i 0 = v := by simp [List.getD, List.getElem?_set_self h]
theorem sets8 (L : List Nat) (i j k m a1 d1 c1 b1 a2 d2 c2 b2 : Nat) (hij : i ≠ j) (hik : i ≠ k) (him : i ≠ m) (hjk : j ≠ k) (hjm : j ≠ m) (hkm : k ≠ m) :
    (((((((L.set i a1).set m d1).set k c1).set j b1).set i a2).set m d2).set k c2).set j b2 = (((L.set i a2).set j b2).set k c2).set m d2 := by
  apply List.ext_getElem (by simp)
  intro p h1 h2
  simp only [List.getElem_set]
  by_cases e1 : i = p
  · subst e1; simp [hij, hik, him, Ne.symm hij, Ne.symm hik, Ne.symm him]
  · by_cases e2 : j = p
    · subst e2; simp [e1, Ne.symm hjk, Ne.symm hjm]
    · by_cases e3 : k = p
      · subst e3; simp [e1, e2, Ne.symm hkm]
      · by_cases e4 : m = p <;> simp [e1, e2, e3, e4]
/-- a box of words -/
abbrev RW (w : World) (g : Nat) (L : List Nat) (T : TypeId) : Prop := w.heap[g]? = some (.cells (VN .u32 L) T (0, 0))
theorem RW.cell {w : World} {g : Nat} {L : List Nat} {T : TypeId} (h : RW w g L T) {i : Nat} (hi : i < L.length) : w.cell? ⟨g, i, none⟩ = some (.int .u32 ((L.getD i 0 : Nat) : Int)) := by
  rw [cell_of_row _ _ _ _ _ _ h, VN_at _ _ _ hi]
theorem RW.froz {w : World} {g : Nat} {L : List Nat} {T : TypeId} (h : RW w g L T) (i : Nat) : w.frozen? ⟨g, i, none⟩ = false := frozen_of_row w _ _ _ _ h
theorem RW.set {w : World} {g : Nat} {L : List Nat} {T : TypeId} (h : RW w g L T) (i v : Nat) : RW (w.setCell ⟨g, i, none⟩ (.int .u32 (v : Int))) g (L.set i v) T := by
  unfold RW at h ⊢
  rw [← VN_set]
  simp [World.setCell, Array.getElem?_modify, h]
/-- four cells of a box -/
structure Q4 (g i j k m : Nat) (w : World) (a b c d : Nat) : Prop where
  A : w.cell? ⟨g, i, none⟩ = some (.int .u32 (a : Int))
  B : w.cell? ⟨g, j, none⟩ = some (.int .u32 (b : Int))
  C : w.cell? ⟨g, k, none⟩ = some (.int .u32 (c : Int))
  D : w.cell? ⟨g, m, none⟩ = some (.int .u32 (d : Int))
  F : ∀ o, w.frozen? ⟨g, o, none⟩ = false
theorem cs_same {w : World} {p : Addr} {u : Value} (h : w.cell? p = some u) (v : Value) : (w.setCell p v).cell? p = some v := World.cell?_setCell_same _ _ _ h
theorem cs_other {w : World} {g i j : Nat} {u : Value} (h : w.cell? ⟨g, j, none⟩ = some u) (v : Value) (hn : i ≠ j) : (w.setCell ⟨g, i, none⟩ v).cell? ⟨g, j, none⟩ = some u := by
  rw [World.cell?_setCell_other _ _ _ _ (by simp [hn])]; exact h
section
variable {g i j k m : Nat} {w : World} {a b c d : Nat}
theorem Q4.sA (h : Q4 g i j k m w a b c d) (hij : i ≠ j) (hik : i ≠ k) (him : i ≠ m) (v : Nat) : Q4 g i j k m (w.setCell ⟨g, i, none⟩ (.int .u32 (v : Int))) v b c d :=
  ⟨cs_same h.A _, cs_other h.B _ hij, cs_other h.C _ hik, cs_other h.D _ him, fun o => by rw [World.frozen?_setCell]; exact h.F o⟩
theorem Q4.sB (h : Q4 g i j k m w a b c d) (hij : i ≠ j) (hjk : j ≠ k) (hjm : j ≠ m) (v : Nat) : Q4 g i j k m (w.setCell ⟨g, j, none⟩ (.int .u32 (v : Int))) a v c d :=
  ⟨cs_other h.A _ (Ne.symm hij), cs_same h.B _, cs_other h.C _ hjk, cs_other h.D _ hjm, fun o => by rw [World.frozen?_setCell]; exact h.F o⟩
theorem Q4.sC (h : Q4 g i j k m w a b c d) (hik : i ≠ k) (hjk : j ≠ k) (hkm : k ≠ m) (v : Nat) : Q4 g i j k m (w.setCell ⟨g, k, none⟩ (.int .u32 (v : Int))) a b v d :=
  ⟨cs_other h.A _ (Ne.symm hik), cs_other h.B _ (Ne.symm hjk), cs_same h.C _, cs_other h.D _ hkm, fun o => by rw [World.frozen?_setCell]; exact h.F o⟩
theorem Q4.sD (h : Q4 g i j k m w a b c d) (him : i ≠ m) (hjm : j ≠ m) (hkm : k ≠ m) (v : Nat) : Q4 g i j k m (w.setCell ⟨g, m, none⟩ (.int .u32 (v : Int))) a b c v :=
  ⟨cs_other h.A _ (Ne.symm him), cs_other h.B _ (Ne.symm hjm), cs_other h.C _ (Ne.symm hkm), cs_same h.D _, fun o => by rw [World.frozen?_setCell]; exact h.F o⟩
end
theorem wrap32 (a b : Nat) : IntKind.u32.wrap ((a : Int) + (b : Int)) = ((ad a b : Nat) : Int) := by
  rw [IntKind.wrap_u32']; unfold ad; omega
set_option maxRecDepth 100000 in
set_option maxHeartbeats 4000000 in
theorem mix_any (g i j k m x y : Nat) (hx : x < 4294967296) (hy : y < 4294967296) (L : List Nat) (T : TypeId) (w : World) (h : RW w g L T) (hL : W32 L) (hi : i < L.length) (hj : j < L.length) (hk : k < L.length) (hm : m < L.length)
    (hij : i ≠ j) (hik : i ≠ k) (him : i ≠ m) (hjk : j ≠ k) (hjm : j ≠ m) (hkm : k ≠ m) :
    Calls Tryd.prog 73 #[.pointer (some ⟨g, i, none⟩), .pointer (some ⟨g, j, none⟩), .pointer (some ⟨g, k, none⟩), .pointer (some ⟨g, m, none⟩), .int .u32 (x : Int), .int .u32 (y : Int)] w fun e w' => e = .returned (.tuple #[]) ∧ But (fun x => x = g) w w' ∧ RW w' g (mat L i j k m x y) T := by
  have xb := hL.at j
  have xd := hL.at m
  have Q0 : Q4 g i j k m w _ _ _ _ := ⟨h.cell hi, h.cell hj, h.cell hk, h.cell hm, fun o => h.froz o⟩
  rw [show mat L i j k m x y = (((L.set i (mx (L.getD i 0) (L.getD j 0) (L.getD k 0) (L.getD m 0) x y).1).set j (mx (L.getD i 0) (L.getD j 0) (L.getD k 0) (L.getD m 0) x y).2.1).set k (mx (L.getD i 0) (L.getD j 0) (L.getD k 0) (L.getD m 0) x y).2.2.1).set m (mx (L.getD i 0) (L.getD j 0) (L.getD k 0) (L.getD m 0) x y).2.2.2 from rfl]
  generalize L.getD i 0 = a at *
  generalize L.getD j 0 = b at *
  generalize L.getD k 0 = c at *
  generalize L.getD m 0 = d at *
  unfold mx
  dsimp only
  have p0 := wrap32 b x
  generalize ad b x = bx at *
  have ra1 := ad_lt a bx
  have p1 := wrap32 a bx
  generalize ad a bx = a1 at *
  have q1 := u32_xor_nat d a1 xd ra1
  have rd1 := rot_lt _ 16 (by decide) (xor_lt xd ra1)
  have t1 := rotr16 _ (xor_lt xd ra1)
  generalize d ^^^ a1 = y1 at *
  generalize rot y1 16 = d1 at *
  have rc1 := ad_lt c d1
  have p2 := wrap32 c d1
  generalize ad c d1 = c1 at *
  have q2 := u32_xor_nat b c1 xb rc1
  have rb1 := rot_lt _ 20 (by decide) (xor_lt xb rc1)
  have t2 := rotr12 _ (xor_lt xb rc1)
  generalize b ^^^ c1 = y2 at *
  generalize rot y2 20 = b1 at *
  have p5 := wrap32 b1 y
  generalize ad b1 y = by1 at *
  have ra2 := ad_lt a1 by1
  have p3 := wrap32 a1 by1
  generalize ad a1 by1 = a2 at *
  have q3 := u32_xor_nat d1 a2 rd1 ra2
  have rd2 := rot_lt _ 24 (by decide) (xor_lt rd1 ra2)
  have t3 := rotr8 _ (xor_lt rd1 ra2)
  generalize d1 ^^^ a2 = y3 at *
  generalize rot y3 24 = d2 at *
  have rc2 := ad_lt c1 d2
  have p4 := wrap32 c1 d2
  generalize ad c1 d2 = c2 at *
  have q4 := u32_xor_nat b1 c2 rb1 rc2
  have t4 := rotr7 _ (xor_lt rb1 rc2)
  generalize b1 ^^^ c2 = y4 at *
  generalize rot y4 25 = b2 at *
  rw [← sets8 L i j k m a1 d1 c1 b1 a2 d2 c2 b2 hij hik him hjk hjm hkm]
  have T1 : Hid _ := t1
  have T2 : Hid _ := t2
  have T3 : Hid _ := t3
  have T4 : Hid _ := t4
  have H : Hid (RW w g L T) := h
  clear t1 t2 t3 t4 h hL ra1 rd1 rc1 rb1 ra2 rd2 rc2 xb xd
  have HB : Hid (But (fun x => x = g) w w ∧ RW w g L T) := ⟨But.refl _ _, H.out⟩
  have A0 := Q0.A
  have B0 := Q0.B
  have F0 := Q0.F
  have Q1 := Q0.sA hij hik him a1
  have HB1 : Hid (But (fun x => x = g) w (w.setCell ⟨g, i, none⟩ (.int .u32 (a1 : Int))) ∧ RW (w.setCell ⟨g, i, none⟩ (.int .u32 (a1 : Int))) g ((L).set i a1) T) := ⟨(HB.out.1).setCell rfl _, (HB.out.2).set _ _⟩
  obtain ⟨W1, e1⟩ : ∃ W, w.setCell ⟨g, i, none⟩ (.int .u32 (a1 : Int)) = W := ⟨_, rfl⟩
  rw [e1] at Q1 HB1
  have D1 := Q1.D
  have A1 := Q1.A
  have F1 := Q1.F
  have Q2 := Q1.sD him hjm hkm d1
  have HB2 : Hid (But (fun x => x = g) w (W1.setCell ⟨g, m, none⟩ (.int .u32 (d1 : Int))) ∧ RW (W1.setCell ⟨g, m, none⟩ (.int .u32 (d1 : Int))) g (((L).set i a1).set m d1) T) := ⟨(HB1.out.1).setCell rfl _, (HB1.out.2).set _ _⟩
  obtain ⟨W2, e2⟩ : ∃ W, W1.setCell ⟨g, m, none⟩ (.int .u32 (d1 : Int)) = W := ⟨_, rfl⟩
  rw [e2] at Q2 HB2
  have C2 := Q2.C
  have D2 := Q2.D
  have F2 := Q2.F
  have Q3 := Q2.sC hik hjk hkm c1
  have HB3 : Hid (But (fun x => x = g) w (W2.setCell ⟨g, k, none⟩ (.int .u32 (c1 : Int))) ∧ RW (W2.setCell ⟨g, k, none⟩ (.int .u32 (c1 : Int))) g ((((L).set i a1).set m d1).set k c1) T) := ⟨(HB2.out.1).setCell rfl _, (HB2.out.2).set _ _⟩
  obtain ⟨W3, e3⟩ : ∃ W, W2.setCell ⟨g, k, none⟩ (.int .u32 (c1 : Int)) = W := ⟨_, rfl⟩
  rw [e3] at Q3 HB3
  have B3 := Q3.B
  have C3 := Q3.C
  have F3 := Q3.F
  have Q4 := Q3.sB hij hjk hjm b1
  have HB4 : Hid (But (fun x => x = g) w (W3.setCell ⟨g, j, none⟩ (.int .u32 (b1 : Int))) ∧ RW (W3.setCell ⟨g, j, none⟩ (.int .u32 (b1 : Int))) g (((((L).set i a1).set m d1).set k c1).set j b1) T) := ⟨(HB3.out.1).setCell rfl _, (HB3.out.2).set _ _⟩
  obtain ⟨W4, e4⟩ : ∃ W, W3.setCell ⟨g, j, none⟩ (.int .u32 (b1 : Int)) = W := ⟨_, rfl⟩
  rw [e4] at Q4 HB4
  have A4 := Q4.A
  have B4 := Q4.B
  have F4 := Q4.F
  have Q5 := Q4.sA hij hik him a2
  have HB5 : Hid (But (fun x => x = g) w (W4.setCell ⟨g, i, none⟩ (.int .u32 (a2 : Int))) ∧ RW (W4.setCell ⟨g, i, none⟩ (.int .u32 (a2 : Int))) g ((((((L).set i a1).set m d1).set k c1).set j b1).set i a2) T) := ⟨(HB4.out.1).setCell rfl _, (HB4.out.2).set _ _⟩
  obtain ⟨W5, e5⟩ : ∃ W, W4.setCell ⟨g, i, none⟩ (.int .u32 (a2 : Int)) = W := ⟨_, rfl⟩
  rw [e5] at Q5 HB5
  have D5 := Q5.D
  have A5 := Q5.A
  have F5 := Q5.F
  have Q6 := Q5.sD him hjm hkm d2
  have HB6 : Hid (But (fun x => x = g) w (W5.setCell ⟨g, m, none⟩ (.int .u32 (d2 : Int))) ∧ RW (W5.setCell ⟨g, m, none⟩ (.int .u32 (d2 : Int))) g (((((((L).set i a1).set m d1).set k c1).set j b1).set i a2).set m d2) T) := ⟨(HB5.out.1).setCell rfl _, (HB5.out.2).set _ _⟩
  obtain ⟨W6, e6⟩ : ∃ W, W5.setCell ⟨g, m, none⟩ (.int .u32 (d2 : Int)) = W := ⟨_, rfl⟩
  rw [e6] at Q6 HB6
  have C6 := Q6.C
  have D6 := Q6.D
  have F6 := Q6.F
  have Q7 := Q6.sC hik hjk hkm c2
  have HB7 : Hid (But (fun x => x = g) w (W6.setCell ⟨g, k, none⟩ (.int .u32 (c2 : Int))) ∧ RW (W6.setCell ⟨g, k, none⟩ (.int .u32 (c2 : Int))) g ((((((((L).set i a1).set m d1).set k c1).set j b1).set i a2).set m d2).set k c2) T) := ⟨(HB6.out.1).setCell rfl _, (HB6.out.2).set _ _⟩
  obtain ⟨W7, e7⟩ : ∃ W, W6.setCell ⟨g, k, none⟩ (.int .u32 (c2 : Int)) = W := ⟨_, rfl⟩
  rw [e7] at Q7 HB7
  have B7 := Q7.B
  have C7 := Q7.C
  have F7 := Q7.F
  have Q8 := Q7.sB hij hjk hjm b2
  have HB8 : Hid (But (fun x => x = g) w (W7.setCell ⟨g, j, none⟩ (.int .u32 (b2 : Int))) ∧ RW (W7.setCell ⟨g, j, none⟩ (.int .u32 (b2 : Int))) g (((((((((L).set i a1).set m d1).set k c1).set j b1).set i a2).set m d2).set k c2).set j b2) T) := ⟨(HB7.out.1).setCell rfl _, (HB7.out.2).set _ _⟩
  obtain ⟨W8, e8⟩ : ∃ W, W7.setCell ⟨g, j, none⟩ (.int .u32 (b2 : Int)) = W := ⟨_, rfl⟩
  rw [e8] at Q8 HB8
  clear Q0 Q1 Q2 Q3 Q4 Q5 Q6 Q7 Q8 HB HB1 HB2 HB3 HB4 HB5 HB6 HB7 H
  clear hi hj hk hm hij hik him hjk hjm hkm
  go_enter Tryd.func73, Tryd.ntmps73
  go_wp2
  go_region
  go_wp2
  go_cut [] (fun wx => W2.drew.drew = wx)
  case first =>
    go_region_with (go_at_call 74; refine (T1.out _).mono ?_; rintro e w' ⟨rfl, rfl⟩)
    all_goals (go_wp2_with fail; go_meet; rfl)
  subst hcut
  go_wp2
  go_region
  go_wp2
  go_cut [] (fun wx => W4.drew.drew.drew.drew = wx)
  case first =>
    go_region_with (go_at_call 74; refine (T2.out _).mono ?_; rintro e w' ⟨rfl, rfl⟩)
    all_goals (go_wp2_with fail; go_meet; rfl)
  subst hcut
  go_wp2
  go_region
  go_wp2
  go_cut [] (fun wx => W6.drew.drew.drew.drew.drew.drew = wx)
  case first =>
    go_region_with (go_at_call 74; refine (T3.out _).mono ?_; rintro e w' ⟨rfl, rfl⟩)
    all_goals (go_wp2_with fail; go_meet; rfl)
  subst hcut
  go_wp2
  go_region
  go_wp2
  go_region_with (go_at_call 74; refine (T4.out _).mono ?_; rintro e w' ⟨rfl, rfl⟩)
  all_goals (go_wp2; go_end0; exact ⟨rfl, HB8.out.1.drew.drew.drew.drew.drew.drew.drew.drew, HB8.out.2⟩)
end Go.Proofs.YtfkbgodfcnmepaaDoor
namespace Go.Proofs.YtfkbgodfcnmepaaDoor
set_option linter.unusedSimpArgs false
set_option linter.unusedVariables false
open Go.ChangeShapes Go.WideShapes Go.ChangeAt Go.RowKit Go.Pin Go.Str Go.Dig
theorem or_word (x0 x1 x2 x3 : Nat) (r0 : x0 < 256) (r1 : x1 < 256) (r2 : x2 < 256) (r3 : x3 < 256) :
    bits .or .u32 (bits .or .u32 (bits .or .u32 (x0 : Int) ((x1 : Int) * 256)) ((x2 : Int) * 65536)) ((x3 : Int) * 16777216) = ((x0 + 256 * x1 + 65536 * x2 + 16777216 * x3 : Nat) : Int) := by
  have e1 : bits .or .u32 (x0 : Int) ((x1 : Int) * 256) = ((x0 + 256 * x1 : Nat) : Int) := by
    rw [show ((x1 : Int) * 256) = ((x1 * 256 : Nat) : Int) by omega, u32_or_nat _ _ (by omega) (by omega), Nat.or_comm, nat_join 8 (x1 * 256) x0 (by omega) (by omega)]; congr 1; omega
  have e2 : bits .or .u32 ((x0 + 256 * x1 : Nat) : Int) ((x2 : Int) * 65536) = ((x0 + 256 * x1 + 65536 * x2 : Nat) : Int) := by
    rw [show ((x2 : Int) * 65536) = ((x2 * 65536 : Nat) : Int) by omega, u32_or_nat _ _ (by omega) (by omega), Nat.or_comm, nat_join 16 (x2 * 65536) _ (by omega) (by omega)]; congr 1; omega
  rw [e1, e2, show ((x3 : Int) * 16777216) = ((x3 * 16777216 : Nat) : Int) by omega, u32_or_nat _ _ (by omega) (by omega), Nat.or_comm, nat_join 24 (x3 * 16777216) _ (by omega) (by omega)]
  congr 1; omega
theorem size_u8 (w : World) : (sizeOf 5).run Tryd.prog w = .ok 1 w := by kernel_rfl
/-- a piece of an array that a pointer shows -/
theorem run_piece (w : World) (t : TypeId) (N g o : Nat) (ht : Tryd.prog.underlying t = some (.array N 5)) (a b : Int) (l h : Nat) (ha : a = (l : Int)) (hb : b = (h : Int)) (hlh : l ≤ h) (hN : h ≤ N) (hlt : l < N) :
    (Instr.sliceAt t (.pointer (some ⟨g, o, none⟩)) (some (.int .i64 a)) (some (.int .i64 b)) none).run Tryd.prog w = .ok (.slice (some ⟨g, o + l, none⟩) (h - l) (N - l)) w := by
  subst ha; subst hb
  have e1 : ¬ N = l := by omega
  have e2 : (⟨g, o, none⟩ : Addr).add l = ⟨g, o + l, none⟩ := add_mid g o l
  have h1 : ((l : Nat) : Int) ≤ (h : Int) := by omega
  have h2 : ((h : Nat) : Int) ≤ (N : Int) := by omega
  simp [Instr.sliceAt, Instr.sureAddr, run_underlying ht, Instr.sliceBounds, run_sliceBound, size_u8, e1, e2, h1, h2, hlh, hN]
theorem run_four (w : World) (a : Option Addr) (cap : Nat) : (Instr.arrayAt 135 (.slice a 4 cap)).run Tryd.prog w = .ok (.pointer a) w := by
  simp [Instr.arrayAt, run_underlying Tryd.underlying135]
theorem infoS : (Tryd.prog.info? 102).map (·.size) = some 16 := by kernel_rfl
def z16n : List Nat := List.replicate 16 0
/-- the words up to i -/
def wdT (b : List Int) (i : Nat) : List Nat := (List.range 16).map fun j => if j < i then wdi b j else 0
theorem wdT_len (b : List Int) (i : Nat) : (wdT b i).length = 16 := by simp [wdT]
theorem wdT_zero (b : List Int) : wdT b 0 = z16n := by
  apply List.ext_getElem (by simp [wdT, z16n])
  intro j h1 h2
  simp only [wdT, z16n, List.getElem_map, List.getElem_range, List.getElem_replicate]
  rw [if_neg (by omega)]
theorem wdT_full (b : List Int) : wdT b 16 = wds b := by
  apply List.ext_getElem (by simp [wdT, wds])
  intro j h1 h2
  simp only [wdT, wds, List.getElem_map, List.getElem_range]
  rw [wdT_len] at h1
  rw [if_pos h1]
theorem wdT_set (b : List Int) {i : Nat} (hi : i < 16) : (wdT b i).set i (wdi b i) = wdT b (i + 1) := by
  apply List.ext_getElem (by simp [wdT])
  intro j h1 h2
  rw [List.getElem_set]
  simp only [wdT, List.getElem_map, List.getElem_range]
  by_cases e : i = j
  · subst e; simp
  · rw [if_neg e]
    by_cases h : j < i
    · rw [if_pos h, if_pos (by omega)]
    · rw [if_neg h, if_neg (by omega)]
/-- read's two boxes -/
structure RD (n : Nat) (w : World) (L : List Nat) (wr : World) : Prop where
  old : Below n w wr
  sz : n + 2 ≤ wr.heap.size
  hr : RW wr n z16n 102
  hs : RW wr (n + 1) L 102
theorem RW.other {w : World} {g : Nat} {L : List Nat} {T : TypeId} (h : RW w g L T) {g' : Nat} (hn : g ≠ g') (i : Nat) (v : Value) : RW (w.setCell ⟨g', i, none⟩ v) g L T := (heap_setCell_other _ _ _ _ hn).trans h
theorem RD.set {n : Nat} {w wr : World} {L : List Nat} (h : RD n w L wr) (i v : Nat) : RD n w (L.set i v) (wr.setCell ⟨n + 1, i, none⟩ (.int .u32 (v : Int))) :=
  ⟨h.old.setCell (Nat.le_succ n) _, by simp only [World.setCell, Array.size_modify]; exact h.sz, h.hr.other (by omega) _ _, h.hs.set _ _⟩
theorem RD.drew {n : Nat} {w wr : World} {L : List Nat} (h : RD n w L wr) : RD n w L wr.drew := ⟨h.old.drew, h.sz, h.hr, h.hs⟩
theorem rd_start (w : World) : RD w.heap.size w z16n ((w.alloc (.cells (VN .u32 z16n) 102)).alloc (.cells (VN .u32 z16n) 102)) := by
  refine ⟨((Below.refl _ _).alloc (Nat.le_refl _) _).alloc (by simp) _, by simp [size_alloc], ?_, ?_⟩
  · simp only [RW, heap_alloc_any, size_alloc]
    rw [if_neg (by omega), if_pos trivial]
  · simp only [RW, heap_alloc_any, size_alloc]
    rw [if_pos trivial]
set_option maxRecDepth 100000 in
set_option maxHeartbeats 4000000 in
theorem read_any (gb ob : Nat) (b : List Int) (hb : Byb b) (w : World) (hc : ∀ i, i < 64 → w.cell? ⟨gb, ob + i, none⟩ = some (.int .u8 (b.getD i 0))) :
    Calls Tryd.prog 50 #[.pointer (some ⟨gb, ob, none⟩)] w fun e w' => e = .returned (.agg (VN .u32 (wds b))) ∧ Below w.heap.size w w' := by
  have hst := rd_start w
  obtain ⟨n, hn⟩ : ∃ n, w.heap.size = n := ⟨_, rfl⟩
  have hgb : gb < n := by rw [← hn]; exact World.block_lt_of_cell? w _ (hc 0 (by decide))
  obtain ⟨W, hW⟩ : ∃ W, (w.alloc (.cells (VN .u32 z16n) 102)).alloc (.cells (VN .u32 z16n) 102) = W := ⟨_, rfl⟩
  have hW' : (w.alloc (.cells #[.int .u32 0, .int .u32 0, .int .u32 0, .int .u32 0, .int .u32 0, .int .u32 0, .int .u32 0, .int .u32 0, .int .u32 0, .int .u32 0, .int .u32 0, .int .u32 0, .int .u32 0, .int .u32 0, .int .u32 0, .int .u32 0] 102)).alloc (.cells #[.int .u32 0, .int .u32 0, .int .u32 0, .int .u32 0, .int .u32 0, .int .u32 0, .int .u32 0, .int .u32 0, .int .u32 0, .int .u32 0, .int .u32 0, .int .u32 0, .int .u32 0, .int .u32 0, .int .u32 0, .int .u32 0] 102) = W := hW
  rw [hW, hn, ← wdT_zero b] at hst
  have HST : Hid (RD n w (wdT b 0) W) := hst
  have HC : Hid (∀ i Y, i < 64 → Below n w Y → Y.cell? ⟨gb, ob + i, none⟩ = some (.int .u8 (b.getD i 0))) := fun i Y hi hY => by
    rw [World.cell?_of_block (a := ⟨gb, ob + i, none⟩) (hY.block gb hgb)]; exact hc i hi
  have HBY : Hid (Byb b) := hb
  rw [hn]
  have HN : Hid (w.heap.size = n) := hn
  clear hst hW hc hb hgb
  go_enter Tryd.func50, Tryd.ntmps50
  go_wp2
  go_loopw [6] (fun v w' => ∃ i : Nat, i ≤ 16 ∧ v = .int .i64 (i : Int) ∧ RD n w (wdT b i) w') (fun v _ => 16 - (intOf v).toNat)
  case atStart => exact ⟨0, Nat.zero_le _, rfl, HST.out⟩
  case round =>
    clear HST hW'
    obtain ⟨i, hi, rfl, hp⟩ := hrel
    by_cases hlt : i < 16
    · have b1 : (i : Int) < 16 := by omega
      have k0 := HC.out (4 * i) wr (by omega) hp.old
      have k1 := HC.out (4 * i + 1) wr (by omega) hp.old
      have k2 := HC.out (4 * i + 2) wr (by omega) hp.old
      have k3 := HC.out (4 * i + 3) wr (by omega) hp.old
      have y0 := HBY.out.at (4 * i)
      have y1 := HBY.out.at (4 * i + 1)
      have y2 := HBY.out.at (4 * i + 2)
      have y3 := HBY.out.at (4 * i + 3)
      have hw := wdi_int HBY.out i
      obtain ⟨x0, e0⟩ : ∃ x : Nat, b.getD (4 * i) 0 = (x : Int) := ⟨_, (Int.toNat_of_nonneg y0.1).symm⟩
      obtain ⟨x1, e1⟩ : ∃ x : Nat, b.getD (4 * i + 1) 0 = (x : Int) := ⟨_, (Int.toNat_of_nonneg y1.1).symm⟩
      obtain ⟨x2, e2⟩ : ∃ x : Nat, b.getD (4 * i + 2) 0 = (x : Int) := ⟨_, (Int.toNat_of_nonneg y2.1).symm⟩
      obtain ⟨x3, e3⟩ : ∃ x : Nat, b.getD (4 * i + 3) 0 = (x : Int) := ⟨_, (Int.toNat_of_nonneg y3.1).symm⟩
      rw [e0] at k0 y0
      rw [e1] at k1 y1
      rw [e2] at k2 y2
      rw [e3] at k3 y3
      rw [e0, e1, e2, e3] at hw
      have ho := or_word x0 x1 x2 x3 (by omega) (by omega) (by omega) (by omega)
      obtain ⟨y, hy⟩ : ∃ y, wdi b i = y := ⟨_, rfl⟩
      rw [hy] at hw
      rw [show ((x0 + 256 * x1 + 65536 * x2 + 16777216 * x3 : Nat) : Int) = (y : Int) by omega] at ho
      simp only [← Nat.add_assoc] at k1 k2 k3
      have hpc := fun w => run_piece w 65 64 gb ob Tryd.underlying65 (4 * (i : Int)) (4 * (i : Int) + 4) (4 * i) (4 * i + 4) (by omega) (by omega) (by omega) (by omega) (by omega)
      rw [show 4 * i + 4 - 4 * i = 4 by omega] at hpc
      have hp1 := hp.set i y
      have hfr := hp.hs.froz i
      have hcl := hp.hs.cell (i := i) (by rw [wdT_len]; exact hlt)
      obtain ⟨W1, hW1⟩ : ∃ V, wr.setCell ⟨n + 1, i, none⟩ (.int .u32 (y : Int)) = V := ⟨_, rfl⟩
      rw [hW1] at hp1
      have HP1 : Hid (RD n w (wdT b (i + 1)) W1) := by
        have := hp1
        rw [← hy, wdT_set b hlt] at this
        exact this
      have r4 := fun w a cap => run_four w a cap
      obtain ⟨v0, hv0⟩ : ∃ v, (wdT b i).getD i 0 = v := ⟨_, rfl⟩
      rw [hv0] at hcl
      clear hw hy e0 e1 e2 e3 hp hp1 hv0
      go_upto_region 6 with fail
      go_region
      go_wp2
      exact ⟨⟨i + 1, hlt, by go_num, HP1.out.drew⟩, by simp [intOf]; omega⟩
    · have hi' : i = 16 := by omega
      subst hi'
      rw [wdT_full] at hp
      have HP : Hid (RD n w (wds b) wr) := hp
      have HIB : Hid ((Tryd.prog.info? 102).map (·.size) = some (VN .u32 (wds b)).size) := by
        have : (Tryd.prog.info? 102).map (·.size) = some (VN .u32 (wds b)).size := by rw [VN_size, wds_len]; exact infoS
        exact this
      have HSB : Hid ((VN .u32 z16n).size = (VN .u32 (wds b)).size) := by
        have : (VN .u32 z16n).size = (VN .u32 (wds b)).size := by rw [VN_size, VN_size, wds_len]; rfl
        exact this
      clear hp hlt hi
      go_wp2_with (with_reducible refine at_list ?_; first | (refine wpList_load_row rfl 102 (.tmp 3) rfl (n + 1) rfl 102 (VN .u32 (wds b)) (0, 0) _ HP.out.hs Tryd.underlying102 rfl HIB.out ?_) | (refine wpList_store_row rfl 102 (.tmp 2) (.tmp 47) rfl n (VN .u32 (wds b)) rfl rfl 102 (VN .u32 z16n) HP.out.hr HIB.out HSB.out (VN_one _ _) ?_))
      refine bodyPost_ret (v := .agg (VN .u32 (wds b))) ?_ rfl ⟨rfl, below_setRow HP.out.old _ (Nat.le_refl _) _⟩
      exact results_cell_row (P := Tryd.prog) (fn := Tryd.f50) (p := 2) (ty := 102) rfl _ _ n 102 (VN .u32 (wds b)) (0, 0) _ rfl (setRow_heap _ _ _ _ 102 _ HP.out.hr) Tryd.underlying102 rfl HIB.out
end Go.Proofs.YtfkbgodfcnmepaaDoor
namespace Go.Proofs.YtfkbgodfcnmepaaDoor
set_option linter.unusedSimpArgs false
set_option linter.unusedVariables false
open Go.ChangeShapes Go.WideShapes Go.ChangeAt Go.RowKit Go.Pin Go.Str Go.Dig
/-- a box of bytes -/
abbrev RY (w : World) (g : Nat) (L : List Int) (T : TypeId) : Prop := w.heap[g]? = some (.cells (VI .u8 L) T (0, 0))
theorem RY.cell {w : World} {g : Nat} {L : List Int} {T : TypeId} (h : RY w g L T) {i : Nat} (hi : i < L.length) : w.cell? ⟨g, i, none⟩ = some (.int .u8 (L.getD i 0)) := by
  rw [cell_of_row _ _ _ _ _ _ h, VI_at _ _ _ hi]
theorem RY.froz {w : World} {g : Nat} {L : List Int} {T : TypeId} (h : RY w g L T) (i : Nat) : w.frozen? ⟨g, i, none⟩ = false := frozen_of_row w _ _ _ _ h
theorem RY.set {w : World} {g : Nat} {L : List Int} {T : TypeId} (h : RY w g L T) (i : Nat) (v : Int) : RY (w.setCell ⟨g, i, none⟩ (.int .u8 v)) g (L.set i v) T := by
  unfold RY at h ⊢
  rw [heap_setCell_same w _ _ _ _ _ h]
  simp [VI, List.map_set]
theorem RY.other {w : World} {g : Nat} {L : List Int} {T : TypeId} (h : RY w g L T) {g' : Nat} (hn : g ≠ g') (i : Nat) (v : Value) : RY (w.setCell ⟨g', i, none⟩ v) g L T := (heap_setCell_other _ _ _ _ hn).trans h
def z32i : List Int := List.replicate 32 0
theorem info32 : (Tryd.prog.info? 53).map (·.size) = some 32 := by kernel_rfl
/-- the bytes of the words up to m -/
def splT (h : List Nat) (m : Nat) : List Int := (List.range 32).map fun j => if j < m then ((bt h j : Nat) : Int) else 0
theorem splT_len (h : List Nat) (m : Nat) : (splT h m).length = 32 := by simp [splT]
theorem splT_zero (h : List Nat) : splT h 0 = z32i := by
  apply List.ext_getElem (by simp [splT, z32i])
  intro j h1 h2
  simp only [splT, z32i, List.getElem_map, List.getElem_range, List.getElem_replicate]
  rw [if_neg (by omega)]
theorem splT_full (h : List Nat) : splT h 32 = spl h 32 := by
  apply List.ext_getElem (by simp [splT, spl])
  intro j h1 h2
  simp only [splT, spl, List.getElem_map, List.getElem_range]
  rw [splT_len] at h1
  rw [if_pos h1]
theorem splT_set (h : List Nat) {i : Nat} (hi : i < 32) {v : Int} (hv : v = ((bt h i : Nat) : Int)) : (splT h i).set i v = splT h (i + 1) := by
  subst hv
  apply List.ext_getElem (by simp [splT])
  intro j h1 h2
  rw [List.getElem_set]
  simp only [splT, List.getElem_map, List.getElem_range]
  by_cases e : i = j
  · subst e; simp
  · rw [if_neg e]
    by_cases h : j < i
    · rw [if_pos h, if_pos (by omega)]
    · rw [if_neg h, if_neg (by omega)]
theorem bt_at (ws : List Nat) (i j : Nat) (hj : j < 4) : bt ws (4 * i + j) = ws.getD i 0 / 256 ^ j % 256 := by
  unfold bt; rw [show (4 * i + j) / 4 = i by omega, show (4 * i + j) % 4 = j by omega]
/-- spell's two boxes -/
structure SD (n : Nat) (w : World) (L : List Int) (wr : World) : Prop where
  old : Below n w wr
  sz : n + 2 ≤ wr.heap.size
  hr : RY wr n z32i 53
  hs : RY wr (n + 1) L 53
theorem SD.set {n : Nat} {w wr : World} {L : List Int} (h : SD n w L wr) (i : Nat) (v : Int) : SD n w (L.set i v) (wr.setCell ⟨n + 1, i, none⟩ (.int .u8 v)) :=
  ⟨h.old.setCell (Nat.le_succ n) _, by simp only [World.setCell, Array.size_modify]; exact h.sz, h.hr.other (by omega) _ _, h.hs.set _ _⟩
theorem SD.drew {n : Nat} {w wr : World} {L : List Int} (h : SD n w L wr) : SD n w L wr.drew := ⟨h.old.drew, h.sz, h.hr, h.hs⟩
theorem sd_start (w : World) : SD w.heap.size w z32i ((w.alloc (.cells (VI .u8 z32i) 53)).alloc (.cells (VI .u8 z32i) 53)) := by
  refine ⟨((Below.refl _ _).alloc (Nat.le_refl _) _).alloc (by simp) _, by simp [size_alloc], ?_, ?_⟩
  · simp only [RY, heap_alloc_any, size_alloc]
    rw [if_neg (by omega), if_pos trivial]
  · simp only [RY, heap_alloc_any, size_alloc]
    rw [if_pos trivial]
set_option maxRecDepth 100000 in
set_option maxHeartbeats 4000000 in
theorem spell_any (gs os : Nat) (h : List Nat) (hh : S8 h) (w : World) (hc : ∀ i, i < 8 → w.cell? ⟨gs, os + i, none⟩ = some (.int .u32 ((h.getD i 0 : Nat) : Int))) :
    Calls Tryd.prog 42 #[.pointer (some ⟨gs, os, none⟩)] w fun e w' => e = .returned (.agg (VI .u8 (spl h 32))) ∧ Below w.heap.size w w' := by
  have hst := sd_start w
  obtain ⟨n, hn⟩ : ∃ n, w.heap.size = n := ⟨_, rfl⟩
  have hgb : gs < n := by rw [← hn]; exact World.block_lt_of_cell? w _ (hc 0 (by decide))
  obtain ⟨W, hW⟩ : ∃ W, (w.alloc (.cells (VI .u8 z32i) 53)).alloc (.cells (VI .u8 z32i) 53) = W := ⟨_, rfl⟩
  rw [hW, hn, ← splT_zero h] at hst
  have hW' : (w.alloc (.cells #[.int .u8 0, .int .u8 0, .int .u8 0, .int .u8 0, .int .u8 0, .int .u8 0, .int .u8 0, .int .u8 0, .int .u8 0, .int .u8 0, .int .u8 0, .int .u8 0, .int .u8 0, .int .u8 0, .int .u8 0, .int .u8 0, .int .u8 0, .int .u8 0, .int .u8 0, .int .u8 0, .int .u8 0, .int .u8 0, .int .u8 0, .int .u8 0, .int .u8 0, .int .u8 0, .int .u8 0, .int .u8 0, .int .u8 0, .int .u8 0, .int .u8 0, .int .u8 0] 53)).alloc (.cells #[.int .u8 0, .int .u8 0, .int .u8 0, .int .u8 0, .int .u8 0, .int .u8 0, .int .u8 0, .int .u8 0, .int .u8 0, .int .u8 0, .int .u8 0, .int .u8 0, .int .u8 0, .int .u8 0, .int .u8 0, .int .u8 0, .int .u8 0, .int .u8 0, .int .u8 0, .int .u8 0, .int .u8 0, .int .u8 0, .int .u8 0, .int .u8 0, .int .u8 0, .int .u8 0, .int .u8 0, .int .u8 0, .int .u8 0, .int .u8 0, .int .u8 0, .int .u8 0] 53) = W := hW
  have HST : Hid (SD n w (splT h 0) W) := hst
  have HC : Hid (∀ i Y, i < 8 → Below n w Y → Y.cell? ⟨gs, os + i, none⟩ = some (.int .u32 ((h.getD i 0 : Nat) : Int))) := fun i Y hi hY => by
    rw [World.cell?_of_block (a := ⟨gs, os + i, none⟩) (hY.block gs hgb)]; exact hc i hi
  have HBY : Hid (S8 h) := hh
  rw [hn]
  clear hst hW hc hh hgb
  go_enter Tryd.func42, Tryd.ntmps42
  go_wp2
  go_loopw [8] (fun v w' => ∃ i : Nat, i ≤ 8 ∧ v = .int .i64 (i : Int) ∧ SD n w (splT h (4 * i)) w') (fun v _ => 8 - (intOf v).toNat)
  case atStart => exact ⟨0, Nat.zero_le _, rfl, HST.out⟩
  case round =>
    clear HST hW'
    obtain ⟨i, hi, rfl, hp⟩ := hrel
    by_cases hlt : i < 8
    · have b1 : (i : Int) < 8 := by omega
      have k0 := HC.out i wr hlt hp.old
      have hx := HBY.out.bd.at i
      have q0 := bt_at h i 0 (by decide)
      have q1 := bt_at h i 1 (by decide)
      have q2 := bt_at h i 2 (by decide)
      have q3 := bt_at h i 3 (by decide)
      simp only [Nat.pow_zero, Nat.div_one, Nat.pow_one, show (256 : Nat) ^ 2 = 65536 from rfl, show (256 : Nat) ^ 3 = 16777216 from rfl, Nat.add_zero] at q0 q1 q2 q3
      obtain ⟨x, hxe⟩ : ∃ x, h.getD i 0 = x := ⟨_, rfl⟩
      rw [hxe] at k0 hx q0 q1 q2 q3
      have hpc := fun w => run_piece w 53 32 (n + 1) 0 Tryd.underlying53 (4 * (i : Int)) (4 * (i : Int) + 4) (4 * i) (4 * i + 4) (by omega) (by omega) (by omega) (by omega) (by omega)
      rw [show 4 * i + 4 - 4 * i = 4 by omega, Nat.zero_add] at hpc
      obtain ⟨v0, hv0⟩ : ∃ v : Int, ((bt h (4 * i) : Nat) : Int) = v := ⟨_, rfl⟩
      obtain ⟨v1, hv1⟩ : ∃ v : Int, ((bt h (4 * i + 1) : Nat) : Int) = v := ⟨_, rfl⟩
      obtain ⟨v2, hv2⟩ : ∃ v : Int, ((bt h (4 * i + 2) : Nat) : Int) = v := ⟨_, rfl⟩
      obtain ⟨v3, hv3⟩ : ∃ v : Int, ((bt h (4 * i + 3) : Nat) : Int) = v := ⟨_, rfl⟩
      have p0 : (x : Int) % 256 = v0 := by rw [← hv0, q0]; omega
      have p1 : (x : Int) / 256 % 256 = v1 := by rw [← hv1, q1]; omega
      have p2 : (x : Int) / 65536 % 256 = v2 := by rw [← hv2, q2]; omega
      have p3 : (x : Int) / 16777216 = v3 := by rw [← hv3, q3]; omega
      have c0 := hp.hs.cell (i := 4 * i) (by rw [splT_len]; omega)
      have f0 := fun k => hp.hs.froz k
      have hp0 := hp.set (4 * i) v0
      rw [splT_set h (by omega) hv0.symm] at hp0
      obtain ⟨W1, hW1⟩ : ∃ V, wr.setCell ⟨n + 1, 4 * i, none⟩ (.int .u8 v0) = V := ⟨_, rfl⟩
      rw [hW1] at hp0
      have c1 := hp0.hs.cell (i := 4 * i + 1) (by rw [splT_len]; omega)
      have f1 := fun k => hp0.hs.froz k
      have hp1 := hp0.set (4 * i + 1) v1
      rw [splT_set h (by omega) hv1.symm] at hp1
      obtain ⟨W2, hW2⟩ : ∃ V, W1.setCell ⟨n + 1, 4 * i + 1, none⟩ (.int .u8 v1) = V := ⟨_, rfl⟩
      rw [hW2] at hp1
      have c2 := hp1.hs.cell (i := 4 * i + 1 + 1) (by rw [splT_len]; omega)
      have f2 := fun k => hp1.hs.froz k
      have hp2 := hp1.set (4 * i + 1 + 1) v2
      rw [splT_set h (by omega) hv2.symm] at hp2
      obtain ⟨W3, hW3⟩ : ∃ V, W2.setCell ⟨n + 1, 4 * i + 2, none⟩ (.int .u8 v2) = V := ⟨_, rfl⟩
      rw [show 4 * i + 1 + 1 = 4 * i + 2 by omega] at c2 hp2
      rw [hW3] at hp2
      have c3 := hp2.hs.cell (i := 4 * i + 2 + 1) (by rw [splT_len]; omega)
      have f3 := fun k => hp2.hs.froz k
      have hp3 := hp2.set (4 * i + 2 + 1) v3
      rw [splT_set h (by omega) hv3.symm] at hp3
      rw [show 4 * i + 2 + 1 = 4 * i + 3 by omega] at c3 hp3
      obtain ⟨W4, hW4⟩ : ∃ V, W3.setCell ⟨n + 1, 4 * i + 3, none⟩ (.int .u8 v3) = V := ⟨_, rfl⟩
      rw [hW4, show 4 * i + 3 + 1 = 4 * (i + 1) by omega] at hp3
      have HP1 : Hid (SD n w (splT h (4 * (i + 1))) W4) := hp3
      have r4 := fun w a cap => run_four w a cap
      clear hp hp0 hp1 hp2 hp3 hv0 hv1 hv2 hv3 q0 q1 q2 q3 hxe
      go_upto_region 4 with fail
      go_region
      go_wp2
      exact ⟨⟨i + 1, hlt, by go_num, HP1.out.drew⟩, by simp [intOf]; omega⟩
    · have hi' : i = 8 := by omega
      subst hi'
      rw [show 4 * 8 = 32 from rfl, splT_full] at hp
      have HP : Hid (SD n w (spl h 32) wr) := hp
      have HIB : Hid ((Tryd.prog.info? 53).map (·.size) = some (VI .u8 (spl h 32)).size) := by
        have : (Tryd.prog.info? 53).map (·.size) = some (VI .u8 (spl h 32)).size := by rw [VI_size, spl_len]; exact info32
        exact this
      have HSB : Hid ((VI .u8 z32i).size = (VI .u8 (spl h 32)).size) := by
        have : (VI .u8 z32i).size = (VI .u8 (spl h 32)).size := by rw [VI_size, VI_size, spl_len]; rfl
        exact this
      clear hp hlt hi
      go_wp2_with (with_reducible refine at_list ?_; first | (refine wpList_load_row rfl 53 (.tmp 3) rfl (n + 1) rfl 53 (VI .u8 (spl h 32)) (0, 0) _ HP.out.hs Tryd.underlying53 rfl HIB.out ?_) | (refine wpList_store_row rfl 53 (.tmp 2) (.tmp 45) rfl n (VI .u8 (spl h 32)) rfl rfl 53 (VI .u8 z32i) HP.out.hr HIB.out HSB.out (VI_one _ _) ?_))
      refine bodyPost_ret (v := .agg (VI .u8 (spl h 32))) ?_ rfl ⟨rfl, below_setRow HP.out.old _ (Nat.le_refl _) _⟩
      exact results_cell_row (P := Tryd.prog) (fn := Tryd.f42) (p := 2) (ty := 53) rfl _ _ n 53 (VI .u8 (spl h 32)) (0, 0) _ rfl (setRow_heap _ _ _ _ 53 _ HP.out.hr) Tryd.underlying53 rfl HIB.out
end Go.Proofs.YtfkbgodfcnmepaaDoor
