import Derived.Test.YtfkbgodfcnmepaaDoorDmal
import Derived.Test.YtfkbgodfcnmepaaDoorDmam
namespace Go.Proofs.YtfkbgodfcnmepaaDoor
set_option linter.unusedSimpArgs false
set_option linter.unusedVariables false
open Go.ChangeShapes Go.WideShapes Go.ChangeAt Go.RowKit Go.Pin Go.Str Go.Dig
/-- a part of a slice -/
theorem run_mid (w : World) (a : Option Addr) (n cap x y : Nat) (x' y' : Int) (hx : x' = (x : Int)) (hy : y' = (y : Int)) (hxy : x ≤ y) (hyn : y ≤ cap) : (Instr.slice 22 (.slice a n cap) (some (.int .i64 x')) (some (.int .i64 y')) none).run Tryd.prog w = .ok (.slice (adv a cap x) (y - x) (cap - x)) w := by
  subst hx; subst hy
  have h1 : ((x : Nat) : Int) ≤ (y : Int) := by omega
  have h2 : ((y : Nat) : Int) ≤ (cap : Int) := by omega
  simp [Instr.slice, run_underlying Tryd.underlying22, Instr.sliceBounds, run_sliceBound, size_u8, sliced, h1, h2, hxy, hyn, adv]
theorem Src.mid {B : Nat} {w : World} {bx : List (Nat × Obj)} {a : Option Addr} {n cap : Nat} {D : List Int} (h : Src B w bx (.slice a n cap) D) (x y : Nat) (hxy : x ≤ y) (hy : y ≤ n) : Src B w bx (.slice (adv a cap x) (y - x) (cap - x)) ((D.drop x).take (y - x)) := by
  have hl := h.len
  have h2 := h.from' x (by omega)
  obtain ⟨a', c', e, hc, h3⟩ := h2
  injection e with e1 e2 e3
  have hl2 : ((D.drop x).take (y - x)).length = y - x := by rw [List.length_take, List.length_drop, hl.1]; omega
  refine ⟨adv a cap x, cap - x, by rw [hl2], by rw [hl2]; omega, ?_⟩
  rcases h3 with h3 | ⟨b, o, h3, h4⟩
  · left; rw [h3]; simp
  · right
    refine ⟨b, o, by rw [e1]; exact h3, fun W hW hq => ?_⟩
    rw [List.map_take]
    exact range_take (h4 W hW hq) (y - x)
theorem Src.rdb {B : Nat} {w : World} {bx : List (Nat × Obj)} {a : Option Addr} {n cap : Nat} {D : List Int} (h : Src B w bx (.slice a n cap) D) {rv : Value} {l : List (Int × Int)} {Y : World} (he : Ev B w rv l bx Y) : Rdb Y.heap.size Y a D := fun i hi => by
  obtain ⟨b, o, h1, h2⟩ := (h.at_ he []).range (by rw [← h.len.1]; omega)
  refine ⟨b, o, h1, fun Z hZ => ?_⟩
  exact h2 Z hZ (fun q hq => nomatch hq) i _ (by rw [List.getElem?_map, List.getElem?_eq_getElem hi, List.getD_eq_getElem?_getD, List.getElem?_eq_getElem hi]; rfl)
section
variable {a : Act} {o : Oper} {x y z : Operand} {g : Nat}
theorem run_ldH {L : List Nat} (hl : L.length = 8) (ho : o.op = .load 78 x) (he : a.eval x = .pointer (some ⟨g, 0, none⟩)) (w : World) (hg : w.rangeAt g 0 ((L.map Int.ofNat).map (Value.int .i64))) : (execOp a.eval o).run Tryd.prog w = .ok (.value (.agg (VN .i64 L))) w := by
  unfold execOp
  simp only [ho, he, Instr.loadAt, Instr.sureAddr, Sem.run_bind, Sem.run_pure, Result.andThen_ok, run_loadVar_mid w g 0 78 ((L.map Int.ofNat).map (Value.int .i64)) _ hg Tryd.underlying78 rfl (by rw [List.length_map, List.length_map, hl]; exact info8i)]
  rfl
theorem run_a64 {p : Nat} (hh : p ≤ 1000000) (ho : o.op = .binOp .add 3 x y 3) (hx : a.eval x = .int .i64 (p : Int)) (hy : a.eval y = .int .i64 64) (w : World) : (execOp a.eval o).run Tryd.prog w = .ok (.value (.int .i64 ((p + 64 : Nat) : Int))) w := by
  have hw : wrap64 ((p : Int) + 64) = ((p + 64 : Nat) : Int) := by rw [IntWalk.wrap64_in _ ⟨by omega, by omega⟩]; omega
  have hw' : IntKind.i64.wrap ((p : Int) + 64) = ((p + 64 : Nat) : Int) := by rw [IntWalk.i64_in _ ⟨by omega, by omega⟩]; omega
  unfold execOp
  simp only [ho, hx, hy]
  go_simp
theorem run_slM {sa : Option Addr} {n cap p : Nat} (hp : p + 64 ≤ cap) (ho : o.op = .slice 22 x (some y) (some z) none) (hx : a.eval x = .slice sa n cap) (hy : a.eval y = .int .i64 (p : Int)) (hz : a.eval z = .int .i64 ((p + 64 : Nat) : Int)) (w : World) : (execOp a.eval o).run Tryd.prog w = .ok (.value (.slice (adv sa cap p) (p + 64 - p) (cap - p))) w := by
  unfold execOp
  simp only [ho, hx, hy, hz, Option.map_some, Option.map_none, Instr.sliceAt, Sem.run_bind, run_underlying Tryd.underlying22, run_mid w sa n cap p (p + 64) _ _ rfl rfl (by omega) hp, Result.andThen_ok, Sem.run_pure]
theorem run_slF {sa : Option Addr} {n cap p : Nat} (hp : p ≤ n ∧ n ≤ cap) (ho : o.op = .slice 22 x (some y) none none) (hx : a.eval x = .slice sa n cap) (hy : a.eval y = .int .i64 (p : Int)) (w : World) : (execOp a.eval o).run Tryd.prog w = .ok (.value (.slice (adv sa cap p) (n - p) (cap - p))) w := by
  unfold execOp
  simp only [ho, hx, hy, Option.map_some, Option.map_none, Instr.sliceAt, Sem.run_bind, run_underlying Tryd.underlying22, run_from w sa n cap p _ rfl hp.1 hp.2, Result.andThen_ok, Sem.run_pure]
theorem run_lenB {sa : Option Addr} {n cap : Nat} (ho : o.op = .call { callee := .builtin .len, args := #[x], argTypes := #[22] }) (hx : a.eval x = .slice sa n cap) (w : World) : (execOp a.eval o).run Tryd.prog w = .ok (.value (.int .i64 (n : Int))) w := by
  unfold execOp
  simp only [ho, resolve, invoke, builtin, Sem.run_bind, Sem.run_pure, Result.andThen_ok, List.map_toArray, List.map_cons, List.map_nil, hx]
  go_simp
end
noncomputable def rgRs13 : Code := ((Tryd.f12.body.bind (findReg 13)).getD .skip)
noncomputable def opRs13 : Array Oper := opsOf rgRs13
theorem rgRs13_is : rgRs13 = .region 13 opRs13 true := by kernel_rfl
theorem opRs13_ns : Region.noSelect opRs13 = true := by kernel_rfl
theorem opRs13_0 : opIs opRs13 0 (.load 78 (.tmp 9)) (some 57) := by unfold opIs; kernel_rfl
theorem opRs13_1 : opIs opRs13 1 (.move (.tmp 8)) (some 58) := by unfold opIs; kernel_rfl
theorem opRs13_2 : opIs opRs13 2 (.move (.tmp 10)) (some 59) := by unfold opIs; kernel_rfl
theorem opRs13_3 : opIs opRs13 3 (.move (.tmp 10)) (some 60) := by unfold opIs; kernel_rfl
theorem opRs13_4 : opIs opRs13 4 (.binOp .add 3 (.tmp 60) (.const (.int .i64 64)) 3) (some 61) := by unfold opIs; kernel_rfl
theorem opRs13_5 : opIs opRs13 5 (.slice 22 (.tmp 58) (some (.tmp 59)) (some (.tmp 61)) none) (some 62) := by unfold opIs; kernel_rfl
theorem opRs13_6 : opIs opRs13 6 (.move (.tmp 10)) (some 63) := by unfold opIs; kernel_rfl
theorem opRs13_7 : opIs opRs13 7 (.binOp .add 3 (.tmp 63) (.const (.int .i64 64)) 3) (some 64) := by unfold opIs; kernel_rfl
theorem opRs13_8 : opIs opRs13 8 (.call { callee := .value (.func 33), args := #[.tmp 57, .tmp 62, .tmp 64, .const (.bool false)], argTypes := #[78, 22, 3, 4] }) (some 65) := by unfold opIs; kernel_rfl
theorem opRs13_9 : opIs opRs13 9 (.store 78 (.tmp 9) (.tmp 65)) (none) := by unfold opIs; kernel_rfl
set_option maxRecDepth 100000 in
set_option maxHeartbeats 4000000 in
theorem Rs13 {Q : Exit → Act → World → Prop} {W : World} {R0 : World → Prop} {R1 : World → Prop} {R2 : World → Prop} {g n cap p : Nat} {sa : Option Addr} {L M : List Nat} {c0 c1 c2 c3 c4 c5 c6 c7 c11 c12 c13 c14 c15 c16 c17 c18 c19 c20 c21 c22 c23 c24 c25 c26 c27 c28 c29 c30 c31 c32 c33 c34 c35 c36 c37 c38 c39 c40 c41 c42 c43 c44 c45 c46 c47 c48 c49 c50 c51 c52 c53 c54 c55 c56 c57 c58 c59 c60 c61 c62 c63 c64 c65 c66 c67 c68 c69 c70 c71 c72 c73 c74 c75 c76 c77 c78 c79 c80 c81 c82 c83 c84 c85 c86 c87 c88 c89 c90 c91 c92 c93 c94 c95 c96 c97 c98 : Value}
    (hL : L.length = 8) (HLd : ∀ Y, R0 Y → Y.rangeAt g 0 ((L.map Int.ofNat).map (Value.int .i64))) (hp : Hid (p ≤ 1000000)) (hc : Hid (p + 64 ≤ cap))
    (hR0 : R0 W.drew) (HS0 : ∀ Y, R0 Y → (fun _ => True) Y)
    (HK0 : Hid (∀ Y, R0 Y → Calls Tryd.prog 33 #[.agg (VN .i64 L), .slice (adv sa cap p) (p + 64 - p) (cap - p), .int .i64 ((p + 64 : Nat) : Int), .bool false] Y fun e w' => e = .returned (.agg (VN .i64 M)) ∧ R1 w'))
    (HS1 : ∀ Y, R1 Y → (fun _ => True) Y)
    (HK1 : Hid (∀ Y, R1 Y → ∀ (a : Act) (o : Oper) (K : Act → World → Prop) (Q : Exit → Act → World → Prop), o.op = .store 78 (.tmp 9) (.tmp 65) → o.dst = none → a.eval (.tmp 9) = .pointer (some ⟨g, 0, none⟩) → a.eval (.tmp 65) = .agg (VN .i64 M) → (∀ w', R2 w' → K a w') → Oper.wp Tryd.prog o a Y K Q))
    (HS2 : ∀ Y, R2 Y → (fun _ => True) Y)
    (HPN : ∀ c (a : Act) d v w, Q (.panic c) (a.put d v) w → Q (.panic c) a w)
    (H : ∀ W', R2 W' → Q .normal ⟨#[c0, c1, c2, c3, c4, c5, c6, c7, .slice sa n cap, .pointer (some ⟨g, 0, none⟩), .int .i64 ((p : Nat) : Int), c11, c12, c13, c14, c15, c16, c17, c18, c19, c20, c21, c22, c23, c24, c25, c26, c27, c28, c29, c30, c31, c32, c33, c34, c35, c36, c37, c38, c39, c40, c41, c42, c43, c44, c45, c46, c47, c48, c49, c50, c51, c52, c53, c54, c55, c56, .agg (VN .i64 L), .slice sa n cap, .int .i64 ((p : Nat) : Int), .int .i64 ((p : Nat) : Int), .int .i64 ((p + 64 : Nat) : Int), .slice (adv sa cap p) (p + 64 - p) (cap - p), .int .i64 ((p : Nat) : Int), .int .i64 ((p + 64 : Nat) : Int), .agg (VN .i64 M), c66, c67, c68, c69, c70, c71, c72, c73, c74, c75, c76, c77, c78, c79, c80, c81, c82, c83, c84, c85, c86, c87, c88, c89, c90, c91, c92, c93, c94, c95, c96, c97, c98], []⟩ W') :
    Code.wp Tryd.prog rgRs13 Q ⟨#[c0, c1, c2, c3, c4, c5, c6, c7, .slice sa n cap, .pointer (some ⟨g, 0, none⟩), .int .i64 ((p : Nat) : Int), c11, c12, c13, c14, c15, c16, c17, c18, c19, c20, c21, c22, c23, c24, c25, c26, c27, c28, c29, c30, c31, c32, c33, c34, c35, c36, c37, c38, c39, c40, c41, c42, c43, c44, c45, c46, c47, c48, c49, c50, c51, c52, c53, c54, c55, c56, c57, c58, c59, c60, c61, c62, c63, c64, c65, c66, c67, c68, c69, c70, c71, c72, c73, c74, c75, c76, c77, c78, c79, c80, c81, c82, c83, c84, c85, c86, c87, c88, c89, c90, c91, c92, c93, c94, c95, c96, c97, c98], []⟩ W := by
  rw [rgRs13_is]
  refine wp_region_held_drew (S := fun _ => True) (by kernel_rfl) (HS0 _ hR0) (fun hH => ?_)
  obtain ⟨w0, hw00⟩ : ∃ V, W.drew = V := ⟨_, rfl⟩
  clear hH
  rw [hw00] at hR0 ⊢
  have hH := HS0 _ hR0
  have hw0 := hR0
  clear hw00
  obtain ⟨a0, ha⟩ : ∃ a : Act, a = ⟨#[c0, c1, c2, c3, c4, c5, c6, c7, .slice sa n cap, .pointer (some ⟨g, 0, none⟩), .int .i64 ((p : Nat) : Int), c11, c12, c13, c14, c15, c16, c17, c18, c19, c20, c21, c22, c23, c24, c25, c26, c27, c28, c29, c30, c31, c32, c33, c34, c35, c36, c37, c38, c39, c40, c41, c42, c43, c44, c45, c46, c47, c48, c49, c50, c51, c52, c53, c54, c55, c56, c57, c58, c59, c60, c61, c62, c63, c64, c65, c66, c67, c68, c69, c70, c71, c72, c73, c74, c75, c76, c77, c78, c79, c80, c81, c82, c83, c84, c85, c86, c87, c88, c89, c90, c91, c92, c93, c94, c95, c96, c97, c98], []⟩ := ⟨_, rfl⟩
  have sz0 : a0.tmps.size = 99 := by rw [ha]; kernel_rfl
  have e0_8 : a0.eval (.tmp 8) = .slice sa n cap := by rw [ha]; kernel_rfl
  have e0_9 : a0.eval (.tmp 9) = .pointer (some ⟨g, 0, none⟩) := by rw [ha]; kernel_rfl
  have e0_10 : a0.eval (.tmp 10) = .int .i64 ((p : Nat) : Int) := by rw [ha]; kernel_rfl
  rw [← ha]
  refine wpAnyH_as (l' := #[false, false, false, false, false, false, false, false, false, false]) (by kernel_rfl) ?_
  refine takeH (v := .slice sa n cap) opRs13_1 opRs13_ns (by kernel_rfl) (by kernel_rfl) HPN (fun w hw o ho => run_move ho e0_8 w) hH ?_
  refine wpAnyH_as (l' := #[false, true, false, false, false, false, false, false, false, false]) (by kernel_rfl) ?_
  obtain ⟨a1, h1⟩ : ∃ a' : Act, a' = a0.put (some 58) (.slice sa n cap) := ⟨_, rfl⟩
  rw [← h1]
  have sz1 : a1.tmps.size = 99 := by rw [h1, size_put]; exact sz0
  have e1_9 : a1.eval (.tmp 9) = .pointer (some ⟨g, 0, none⟩) := by rw [h1, eval_put_ne _ _ _ _ (by decide)]; exact e0_9
  have e1_10 : a1.eval (.tmp 10) = .int .i64 ((p : Nat) : Int) := by rw [h1, eval_put_ne _ _ _ _ (by decide)]; exact e0_10
  have e1_58 : a1.eval (.tmp 58) = .slice sa n cap := by rw [h1]; exact eval_put_eq _ _ _ (by rw [sz0]; decide)
  clear e0_10 e0_8 e0_9 sz0
  refine takeH (v := .int .i64 ((p : Nat) : Int)) opRs13_2 opRs13_ns (by kernel_rfl) (by kernel_rfl) HPN (fun w hw o ho => run_move ho e1_10 w) hH ?_
  refine wpAnyH_as (l' := #[false, true, true, false, false, false, false, false, false, false]) (by kernel_rfl) ?_
  obtain ⟨a2, h2⟩ : ∃ a' : Act, a' = a1.put (some 59) (.int .i64 ((p : Nat) : Int)) := ⟨_, rfl⟩
  rw [← h2]
  have sz2 : a2.tmps.size = 99 := by rw [h2, size_put]; exact sz1
  have e2_9 : a2.eval (.tmp 9) = .pointer (some ⟨g, 0, none⟩) := by rw [h2, eval_put_ne _ _ _ _ (by decide)]; exact e1_9
  have e2_10 : a2.eval (.tmp 10) = .int .i64 ((p : Nat) : Int) := by rw [h2, eval_put_ne _ _ _ _ (by decide)]; exact e1_10
  have e2_58 : a2.eval (.tmp 58) = .slice sa n cap := by rw [h2, eval_put_ne _ _ _ _ (by decide)]; exact e1_58
  have e2_59 : a2.eval (.tmp 59) = .int .i64 ((p : Nat) : Int) := by rw [h2]; exact eval_put_eq _ _ _ (by rw [sz1]; decide)
  clear e1_10 e1_58 e1_9 sz1
  refine takeH (v := .int .i64 ((p : Nat) : Int)) opRs13_3 opRs13_ns (by kernel_rfl) (by kernel_rfl) HPN (fun w hw o ho => run_move ho e2_10 w) hH ?_
  refine wpAnyH_as (l' := #[false, true, true, true, false, false, false, false, false, false]) (by kernel_rfl) ?_
  obtain ⟨a3, h3⟩ : ∃ a' : Act, a' = a2.put (some 60) (.int .i64 ((p : Nat) : Int)) := ⟨_, rfl⟩
  rw [← h3]
  have sz3 : a3.tmps.size = 99 := by rw [h3, size_put]; exact sz2
  have e3_9 : a3.eval (.tmp 9) = .pointer (some ⟨g, 0, none⟩) := by rw [h3, eval_put_ne _ _ _ _ (by decide)]; exact e2_9
  have e3_10 : a3.eval (.tmp 10) = .int .i64 ((p : Nat) : Int) := by rw [h3, eval_put_ne _ _ _ _ (by decide)]; exact e2_10
  have e3_58 : a3.eval (.tmp 58) = .slice sa n cap := by rw [h3, eval_put_ne _ _ _ _ (by decide)]; exact e2_58
  have e3_59 : a3.eval (.tmp 59) = .int .i64 ((p : Nat) : Int) := by rw [h3, eval_put_ne _ _ _ _ (by decide)]; exact e2_59
  have e3_60 : a3.eval (.tmp 60) = .int .i64 ((p : Nat) : Int) := by rw [h3]; exact eval_put_eq _ _ _ (by rw [sz2]; decide)
  clear e2_10 e2_58 e2_59 e2_9 sz2
  refine takeH (v := .int .i64 ((p + 64 : Nat) : Int)) opRs13_4 opRs13_ns (by kernel_rfl) (by kernel_rfl) HPN (fun w hw o ho => run_a64 hp.out ho e3_60 rfl w) hH ?_
  refine wpAnyH_as (l' := #[false, true, true, true, true, false, false, false, false, false]) (by kernel_rfl) ?_
  obtain ⟨a4, h4⟩ : ∃ a' : Act, a' = a3.put (some 61) (.int .i64 ((p + 64 : Nat) : Int)) := ⟨_, rfl⟩
  rw [← h4]
  have sz4 : a4.tmps.size = 99 := by rw [h4, size_put]; exact sz3
  have e4_9 : a4.eval (.tmp 9) = .pointer (some ⟨g, 0, none⟩) := by rw [h4, eval_put_ne _ _ _ _ (by decide)]; exact e3_9
  have e4_10 : a4.eval (.tmp 10) = .int .i64 ((p : Nat) : Int) := by rw [h4, eval_put_ne _ _ _ _ (by decide)]; exact e3_10
  have e4_58 : a4.eval (.tmp 58) = .slice sa n cap := by rw [h4, eval_put_ne _ _ _ _ (by decide)]; exact e3_58
  have e4_59 : a4.eval (.tmp 59) = .int .i64 ((p : Nat) : Int) := by rw [h4, eval_put_ne _ _ _ _ (by decide)]; exact e3_59
  have e4_61 : a4.eval (.tmp 61) = .int .i64 ((p + 64 : Nat) : Int) := by rw [h4]; exact eval_put_eq _ _ _ (by rw [sz3]; decide)
  clear e3_10 e3_58 e3_59 e3_60 e3_9 sz3
  refine takeH (v := .slice (adv sa cap p) (p + 64 - p) (cap - p)) opRs13_5 opRs13_ns (by kernel_rfl) (by kernel_rfl) HPN (fun w hw o ho => run_slM hc.out ho e4_58 e4_59 e4_61 w) hH ?_
  refine wpAnyH_as (l' := #[false, true, true, true, true, true, false, false, false, false]) (by kernel_rfl) ?_
  obtain ⟨a5, h5⟩ : ∃ a' : Act, a' = a4.put (some 62) (.slice (adv sa cap p) (p + 64 - p) (cap - p)) := ⟨_, rfl⟩
  rw [← h5]
  have sz5 : a5.tmps.size = 99 := by rw [h5, size_put]; exact sz4
  have e5_9 : a5.eval (.tmp 9) = .pointer (some ⟨g, 0, none⟩) := by rw [h5, eval_put_ne _ _ _ _ (by decide)]; exact e4_9
  have e5_10 : a5.eval (.tmp 10) = .int .i64 ((p : Nat) : Int) := by rw [h5, eval_put_ne _ _ _ _ (by decide)]; exact e4_10
  have e5_62 : a5.eval (.tmp 62) = .slice (adv sa cap p) (p + 64 - p) (cap - p) := by rw [h5]; exact eval_put_eq _ _ _ (by rw [sz4]; decide)
  clear e4_10 e4_58 e4_59 e4_61 e4_9 sz4
  refine takeH (v := .int .i64 ((p : Nat) : Int)) opRs13_6 opRs13_ns (by kernel_rfl) (by kernel_rfl) HPN (fun w hw o ho => run_move ho e5_10 w) hH ?_
  refine wpAnyH_as (l' := #[false, true, true, true, true, true, true, false, false, false]) (by kernel_rfl) ?_
  obtain ⟨a6, h6⟩ : ∃ a' : Act, a' = a5.put (some 63) (.int .i64 ((p : Nat) : Int)) := ⟨_, rfl⟩
  rw [← h6]
  have sz6 : a6.tmps.size = 99 := by rw [h6, size_put]; exact sz5
  have e6_9 : a6.eval (.tmp 9) = .pointer (some ⟨g, 0, none⟩) := by rw [h6, eval_put_ne _ _ _ _ (by decide)]; exact e5_9
  have e6_62 : a6.eval (.tmp 62) = .slice (adv sa cap p) (p + 64 - p) (cap - p) := by rw [h6, eval_put_ne _ _ _ _ (by decide)]; exact e5_62
  have e6_63 : a6.eval (.tmp 63) = .int .i64 ((p : Nat) : Int) := by rw [h6]; exact eval_put_eq _ _ _ (by rw [sz5]; decide)
  clear e5_10 e5_62 e5_9 sz5
  refine takeH (v := .int .i64 ((p + 64 : Nat) : Int)) opRs13_7 opRs13_ns (by kernel_rfl) (by kernel_rfl) HPN (fun w hw o ho => run_a64 hp.out ho e6_63 rfl w) hH ?_
  refine wpAnyH_as (l' := #[false, true, true, true, true, true, true, true, false, false]) (by kernel_rfl) ?_
  obtain ⟨a7, h7⟩ : ∃ a' : Act, a' = a6.put (some 64) (.int .i64 ((p + 64 : Nat) : Int)) := ⟨_, rfl⟩
  rw [← h7]
  have sz7 : a7.tmps.size = 99 := by rw [h7, size_put]; exact sz6
  have e7_9 : a7.eval (.tmp 9) = .pointer (some ⟨g, 0, none⟩) := by rw [h7, eval_put_ne _ _ _ _ (by decide)]; exact e6_9
  have e7_62 : a7.eval (.tmp 62) = .slice (adv sa cap p) (p + 64 - p) (cap - p) := by rw [h7, eval_put_ne _ _ _ _ (by decide)]; exact e6_62
  have e7_64 : a7.eval (.tmp 64) = .int .i64 ((p + 64 : Nat) : Int) := by rw [h7]; exact eval_put_eq _ _ _ (by rw [sz6]; decide)
  clear e6_62 e6_63 e6_9 sz6
  refine readyLd1 (v := .agg (VN .i64 L)) opRs13_0 (by kernel_rfl) hH (fun o ho => run_ldH hL ho e7_9 w0 (HLd w0 hw0)) ?_
  refine wpAnyH_as (l' := #[true, true, true, true, true, true, true, true, false, false]) (by kernel_rfl) ?_
  obtain ⟨a8, h8⟩ : ∃ a' : Act, a' = a7.put (some 57) (.agg (VN .i64 L)) := ⟨_, rfl⟩
  rw [← h8]
  have sz8 : a8.tmps.size = 99 := by rw [h8, size_put]; exact sz7
  have e8_9 : a8.eval (.tmp 9) = .pointer (some ⟨g, 0, none⟩) := by rw [h8, eval_put_ne _ _ _ _ (by decide)]; exact e7_9
  have e8_62 : a8.eval (.tmp 62) = .slice (adv sa cap p) (p + 64 - p) (cap - p) := by rw [h8, eval_put_ne _ _ _ _ (by decide)]; exact e7_62
  have e8_64 : a8.eval (.tmp 64) = .int .i64 ((p + 64 : Nat) : Int) := by rw [h8, eval_put_ne _ _ _ _ (by decide)]; exact e7_64
  have e8_57 : a8.eval (.tmp 57) = .agg (VN .i64 L) := by rw [h8]; exact eval_put_eq _ _ _ (by rw [sz7]; decide)
  clear e7_62 e7_64 e7_9 sz7
  refine readyH opRs13_8 (by kernel_rfl) (fun o ho hd => wpCall (v := .agg (VN .i64 M)) ho hd (args := #[.agg (VN .i64 L), .slice (adv sa cap p) (p + 64 - p) (cap - p), .int .i64 ((p + 64 : Nat) : Int), .bool false]) (by simp only [List.map_toArray, List.map_cons, List.map_nil, e8_57, e8_62, e8_64] <;> rfl) (fun _ => rfl) (HK0.out  w0 hw0) (fun w1 hw1 => ?_))
  have hH := HS1  w1 hw1
  refine ⟨hH, ?_⟩
  refine wpAnyH_as (l' := #[true, true, true, true, true, true, true, true, true, false]) (by kernel_rfl) ?_
  obtain ⟨a9, h9⟩ : ∃ a' : Act, a' = a8.put (some 65) (.agg (VN .i64 M)) := ⟨_, rfl⟩
  rw [← h9]
  have sz9 : a9.tmps.size = 99 := by rw [h9, size_put]; exact sz8
  have e9_9 : a9.eval (.tmp 9) = .pointer (some ⟨g, 0, none⟩) := by rw [h9, eval_put_ne _ _ _ _ (by decide)]; exact e8_9
  have e9_65 : a9.eval (.tmp 65) = .agg (VN .i64 M) := by rw [h9]; exact eval_put_eq _ _ _ (by rw [sz8]; decide)
  clear e8_57 e8_62 e8_64 e8_9 sz8
  refine readyH opRs13_9 (by kernel_rfl) (fun o ho hd => HK1.out  w1 hw1 _ o _ _ ho hd e9_9 e9_65 (fun  w2 hw2 => ?_))
  have hH := HS2  w2 hw2
  refine ⟨hH, ?_⟩
  refine wpAnyH_as (l' := #[true, true, true, true, true, true, true, true, true, true]) (by kernel_rfl) ?_
  refine wpAnyH_done (by kernel_rfl) ?_ _
  have hF : a9 = ⟨#[c0, c1, c2, c3, c4, c5, c6, c7, .slice sa n cap, .pointer (some ⟨g, 0, none⟩), .int .i64 ((p : Nat) : Int), c11, c12, c13, c14, c15, c16, c17, c18, c19, c20, c21, c22, c23, c24, c25, c26, c27, c28, c29, c30, c31, c32, c33, c34, c35, c36, c37, c38, c39, c40, c41, c42, c43, c44, c45, c46, c47, c48, c49, c50, c51, c52, c53, c54, c55, c56, .agg (VN .i64 L), .slice sa n cap, .int .i64 ((p : Nat) : Int), .int .i64 ((p : Nat) : Int), .int .i64 ((p + 64 : Nat) : Int), .slice (adv sa cap p) (p + 64 - p) (cap - p), .int .i64 ((p : Nat) : Int), .int .i64 ((p + 64 : Nat) : Int), .agg (VN .i64 M), c66, c67, c68, c69, c70, c71, c72, c73, c74, c75, c76, c77, c78, c79, c80, c81, c82, c83, c84, c85, c86, c87, c88, c89, c90, c91, c92, c93, c94, c95, c96, c97, c98], []⟩ := by rw [h9, h8, h7, h6, h5, h4, h3, h2, h1, ha]; kernel_rfl
  rw [hF]
  exact H  _ hw2
noncomputable def rgRs15 : Code := ((Tryd.f12.body.bind (findReg 15)).getD .skip)
noncomputable def opRs15 : Array Oper := opsOf rgRs15
theorem rgRs15_is : rgRs15 = .region 15 opRs15 true := by kernel_rfl
theorem opRs15_ns : Region.noSelect opRs15 = true := by kernel_rfl
theorem opRs15_0 : opIs opRs15 0 (.load 78 (.tmp 9)) (some 68) := by unfold opIs; kernel_rfl
theorem opRs15_1 : opIs opRs15 1 (.move (.tmp 8)) (some 69) := by unfold opIs; kernel_rfl
theorem opRs15_2 : opIs opRs15 2 (.move (.tmp 10)) (some 70) := by unfold opIs; kernel_rfl
theorem opRs15_3 : opIs opRs15 3 (.slice 22 (.tmp 69) (some (.tmp 70)) none none) (some 71) := by unfold opIs; kernel_rfl
theorem opRs15_4 : opIs opRs15 4 (.move (.tmp 8)) (some 72) := by unfold opIs; kernel_rfl
theorem opRs15_5 : opIs opRs15 5 (.call { callee := .builtin .len, args := #[.tmp 72], argTypes := #[22] }) (some 73) := by unfold opIs; kernel_rfl
theorem opRs15_6 : opIs opRs15 6 (.call { callee := .value (.func 33), args := #[.tmp 68, .tmp 71, .tmp 73, .const (.bool true)], argTypes := #[78, 22, 3, 4] }) (some 74) := by unfold opIs; kernel_rfl
theorem opRs15_7 : opIs opRs15 7 (.store 78 (.tmp 9) (.tmp 74)) (none) := by unfold opIs; kernel_rfl
set_option maxRecDepth 100000 in
set_option maxHeartbeats 4000000 in
theorem Rs15 {Q : Exit → Act → World → Prop} {W : World} {R0 : World → Prop} {R1 : World → Prop} {R2 : World → Prop} {g n cap p : Nat} {sa : Option Addr} {L M : List Nat} {c0 c1 c2 c3 c4 c5 c6 c7 c11 c12 c13 c14 c15 c16 c17 c18 c19 c20 c21 c22 c23 c24 c25 c26 c27 c28 c29 c30 c31 c32 c33 c34 c35 c36 c37 c38 c39 c40 c41 c42 c43 c44 c45 c46 c47 c48 c49 c50 c51 c52 c53 c54 c55 c56 c57 c58 c59 c60 c61 c62 c63 c64 c65 c66 c67 c68 c69 c70 c71 c72 c73 c74 c75 c76 c77 c78 c79 c80 c81 c82 c83 c84 c85 c86 c87 c88 c89 c90 c91 c92 c93 c94 c95 c96 c97 c98 : Value}
    (hL : L.length = 8) (HLd : ∀ Y, R0 Y → Y.rangeAt g 0 ((L.map Int.ofNat).map (Value.int .i64))) (hc : Hid (p ≤ n ∧ n ≤ cap))
    (hR0 : R0 W.drew) (HS0 : ∀ Y, R0 Y → (fun _ => True) Y)
    (HK0 : Hid (∀ Y, R0 Y → Calls Tryd.prog 33 #[.agg (VN .i64 L), .slice (adv sa cap p) (n - p) (cap - p), .int .i64 ((n : Nat) : Int), .bool true] Y fun e w' => e = .returned (.agg (VN .i64 M)) ∧ R1 w'))
    (HS1 : ∀ Y, R1 Y → (fun _ => True) Y)
    (HK1 : Hid (∀ Y, R1 Y → ∀ (a : Act) (o : Oper) (K : Act → World → Prop) (Q : Exit → Act → World → Prop), o.op = .store 78 (.tmp 9) (.tmp 74) → o.dst = none → a.eval (.tmp 9) = .pointer (some ⟨g, 0, none⟩) → a.eval (.tmp 74) = .agg (VN .i64 M) → (∀ w', R2 w' → K a w') → Oper.wp Tryd.prog o a Y K Q))
    (HS2 : ∀ Y, R2 Y → (fun _ => True) Y)
    (HPN : ∀ c (a : Act) d v w, Q (.panic c) (a.put d v) w → Q (.panic c) a w)
    (H : ∀ W', R2 W' → Q .normal ⟨#[c0, c1, c2, c3, c4, c5, c6, c7, .slice sa n cap, .pointer (some ⟨g, 0, none⟩), .int .i64 ((p : Nat) : Int), c11, c12, c13, c14, c15, c16, c17, c18, c19, c20, c21, c22, c23, c24, c25, c26, c27, c28, c29, c30, c31, c32, c33, c34, c35, c36, c37, c38, c39, c40, c41, c42, c43, c44, c45, c46, c47, c48, c49, c50, c51, c52, c53, c54, c55, c56, c57, c58, c59, c60, c61, c62, c63, c64, c65, c66, c67, .agg (VN .i64 L), .slice sa n cap, .int .i64 ((p : Nat) : Int), .slice (adv sa cap p) (n - p) (cap - p), .slice sa n cap, .int .i64 ((n : Nat) : Int), .agg (VN .i64 M), c75, c76, c77, c78, c79, c80, c81, c82, c83, c84, c85, c86, c87, c88, c89, c90, c91, c92, c93, c94, c95, c96, c97, c98], []⟩ W') :
    Code.wp Tryd.prog rgRs15 Q ⟨#[c0, c1, c2, c3, c4, c5, c6, c7, .slice sa n cap, .pointer (some ⟨g, 0, none⟩), .int .i64 ((p : Nat) : Int), c11, c12, c13, c14, c15, c16, c17, c18, c19, c20, c21, c22, c23, c24, c25, c26, c27, c28, c29, c30, c31, c32, c33, c34, c35, c36, c37, c38, c39, c40, c41, c42, c43, c44, c45, c46, c47, c48, c49, c50, c51, c52, c53, c54, c55, c56, c57, c58, c59, c60, c61, c62, c63, c64, c65, c66, c67, c68, c69, c70, c71, c72, c73, c74, c75, c76, c77, c78, c79, c80, c81, c82, c83, c84, c85, c86, c87, c88, c89, c90, c91, c92, c93, c94, c95, c96, c97, c98], []⟩ W := by
  rw [rgRs15_is]
  refine wp_region_held_drew (S := fun _ => True) (by kernel_rfl) (HS0 _ hR0) (fun hH => ?_)
  obtain ⟨w0, hw00⟩ : ∃ V, W.drew = V := ⟨_, rfl⟩
  clear hH
  rw [hw00] at hR0 ⊢
  have hH := HS0 _ hR0
  have hw0 := hR0
  clear hw00
  obtain ⟨a0, ha⟩ : ∃ a : Act, a = ⟨#[c0, c1, c2, c3, c4, c5, c6, c7, .slice sa n cap, .pointer (some ⟨g, 0, none⟩), .int .i64 ((p : Nat) : Int), c11, c12, c13, c14, c15, c16, c17, c18, c19, c20, c21, c22, c23, c24, c25, c26, c27, c28, c29, c30, c31, c32, c33, c34, c35, c36, c37, c38, c39, c40, c41, c42, c43, c44, c45, c46, c47, c48, c49, c50, c51, c52, c53, c54, c55, c56, c57, c58, c59, c60, c61, c62, c63, c64, c65, c66, c67, c68, c69, c70, c71, c72, c73, c74, c75, c76, c77, c78, c79, c80, c81, c82, c83, c84, c85, c86, c87, c88, c89, c90, c91, c92, c93, c94, c95, c96, c97, c98], []⟩ := ⟨_, rfl⟩
  have sz0 : a0.tmps.size = 99 := by rw [ha]; kernel_rfl
  have e0_8 : a0.eval (.tmp 8) = .slice sa n cap := by rw [ha]; kernel_rfl
  have e0_9 : a0.eval (.tmp 9) = .pointer (some ⟨g, 0, none⟩) := by rw [ha]; kernel_rfl
  have e0_10 : a0.eval (.tmp 10) = .int .i64 ((p : Nat) : Int) := by rw [ha]; kernel_rfl
  rw [← ha]
  refine wpAnyH_as (l' := #[false, false, false, false, false, false, false, false]) (by kernel_rfl) ?_
  refine takeH (v := .slice sa n cap) opRs15_1 opRs15_ns (by kernel_rfl) (by kernel_rfl) HPN (fun w hw o ho => run_move ho e0_8 w) hH ?_
  refine wpAnyH_as (l' := #[false, true, false, false, false, false, false, false]) (by kernel_rfl) ?_
  obtain ⟨a1, h1⟩ : ∃ a' : Act, a' = a0.put (some 69) (.slice sa n cap) := ⟨_, rfl⟩
  rw [← h1]
  have sz1 : a1.tmps.size = 99 := by rw [h1, size_put]; exact sz0
  have e1_8 : a1.eval (.tmp 8) = .slice sa n cap := by rw [h1, eval_put_ne _ _ _ _ (by decide)]; exact e0_8
  have e1_9 : a1.eval (.tmp 9) = .pointer (some ⟨g, 0, none⟩) := by rw [h1, eval_put_ne _ _ _ _ (by decide)]; exact e0_9
  have e1_10 : a1.eval (.tmp 10) = .int .i64 ((p : Nat) : Int) := by rw [h1, eval_put_ne _ _ _ _ (by decide)]; exact e0_10
  have e1_69 : a1.eval (.tmp 69) = .slice sa n cap := by rw [h1]; exact eval_put_eq _ _ _ (by rw [sz0]; decide)
  clear e0_10 e0_8 e0_9 sz0
  refine takeH (v := .int .i64 ((p : Nat) : Int)) opRs15_2 opRs15_ns (by kernel_rfl) (by kernel_rfl) HPN (fun w hw o ho => run_move ho e1_10 w) hH ?_
  refine wpAnyH_as (l' := #[false, true, true, false, false, false, false, false]) (by kernel_rfl) ?_
  obtain ⟨a2, h2⟩ : ∃ a' : Act, a' = a1.put (some 70) (.int .i64 ((p : Nat) : Int)) := ⟨_, rfl⟩
  rw [← h2]
  have sz2 : a2.tmps.size = 99 := by rw [h2, size_put]; exact sz1
  have e2_8 : a2.eval (.tmp 8) = .slice sa n cap := by rw [h2, eval_put_ne _ _ _ _ (by decide)]; exact e1_8
  have e2_9 : a2.eval (.tmp 9) = .pointer (some ⟨g, 0, none⟩) := by rw [h2, eval_put_ne _ _ _ _ (by decide)]; exact e1_9
  have e2_69 : a2.eval (.tmp 69) = .slice sa n cap := by rw [h2, eval_put_ne _ _ _ _ (by decide)]; exact e1_69
  have e2_70 : a2.eval (.tmp 70) = .int .i64 ((p : Nat) : Int) := by rw [h2]; exact eval_put_eq _ _ _ (by rw [sz1]; decide)
  clear e1_10 e1_69 e1_8 e1_9 sz1
  refine takeH (v := .slice (adv sa cap p) (n - p) (cap - p)) opRs15_3 opRs15_ns (by kernel_rfl) (by kernel_rfl) HPN (fun w hw o ho => run_slF hc.out ho e2_69 e2_70 w) hH ?_
  refine wpAnyH_as (l' := #[false, true, true, true, false, false, false, false]) (by kernel_rfl) ?_
  obtain ⟨a3, h3⟩ : ∃ a' : Act, a' = a2.put (some 71) (.slice (adv sa cap p) (n - p) (cap - p)) := ⟨_, rfl⟩
  rw [← h3]
  have sz3 : a3.tmps.size = 99 := by rw [h3, size_put]; exact sz2
  have e3_8 : a3.eval (.tmp 8) = .slice sa n cap := by rw [h3, eval_put_ne _ _ _ _ (by decide)]; exact e2_8
  have e3_9 : a3.eval (.tmp 9) = .pointer (some ⟨g, 0, none⟩) := by rw [h3, eval_put_ne _ _ _ _ (by decide)]; exact e2_9
  have e3_71 : a3.eval (.tmp 71) = .slice (adv sa cap p) (n - p) (cap - p) := by rw [h3]; exact eval_put_eq _ _ _ (by rw [sz2]; decide)
  clear e2_69 e2_70 e2_8 e2_9 sz2
  refine takeH (v := .slice sa n cap) opRs15_4 opRs15_ns (by kernel_rfl) (by kernel_rfl) HPN (fun w hw o ho => run_move ho e3_8 w) hH ?_
  refine wpAnyH_as (l' := #[false, true, true, true, true, false, false, false]) (by kernel_rfl) ?_
  obtain ⟨a4, h4⟩ : ∃ a' : Act, a' = a3.put (some 72) (.slice sa n cap) := ⟨_, rfl⟩
  rw [← h4]
  have sz4 : a4.tmps.size = 99 := by rw [h4, size_put]; exact sz3
  have e4_9 : a4.eval (.tmp 9) = .pointer (some ⟨g, 0, none⟩) := by rw [h4, eval_put_ne _ _ _ _ (by decide)]; exact e3_9
  have e4_71 : a4.eval (.tmp 71) = .slice (adv sa cap p) (n - p) (cap - p) := by rw [h4, eval_put_ne _ _ _ _ (by decide)]; exact e3_71
  have e4_72 : a4.eval (.tmp 72) = .slice sa n cap := by rw [h4]; exact eval_put_eq _ _ _ (by rw [sz3]; decide)
  clear e3_71 e3_8 e3_9 sz3
  refine takeH (v := .int .i64 ((n : Nat) : Int)) opRs15_5 opRs15_ns (by kernel_rfl) (by kernel_rfl) HPN (fun w hw o ho => run_lenB ho e4_72 w) hH ?_
  refine wpAnyH_as (l' := #[false, true, true, true, true, true, false, false]) (by kernel_rfl) ?_
  obtain ⟨a5, h5⟩ : ∃ a' : Act, a' = a4.put (some 73) (.int .i64 ((n : Nat) : Int)) := ⟨_, rfl⟩
  rw [← h5]
  have sz5 : a5.tmps.size = 99 := by rw [h5, size_put]; exact sz4
  have e5_9 : a5.eval (.tmp 9) = .pointer (some ⟨g, 0, none⟩) := by rw [h5, eval_put_ne _ _ _ _ (by decide)]; exact e4_9
  have e5_71 : a5.eval (.tmp 71) = .slice (adv sa cap p) (n - p) (cap - p) := by rw [h5, eval_put_ne _ _ _ _ (by decide)]; exact e4_71
  have e5_73 : a5.eval (.tmp 73) = .int .i64 ((n : Nat) : Int) := by rw [h5]; exact eval_put_eq _ _ _ (by rw [sz4]; decide)
  clear e4_71 e4_72 e4_9 sz4
  refine readyLd1 (v := .agg (VN .i64 L)) opRs15_0 (by kernel_rfl) hH (fun o ho => run_ldH hL ho e5_9 w0 (HLd w0 hw0)) ?_
  refine wpAnyH_as (l' := #[true, true, true, true, true, true, false, false]) (by kernel_rfl) ?_
  obtain ⟨a6, h6⟩ : ∃ a' : Act, a' = a5.put (some 68) (.agg (VN .i64 L)) := ⟨_, rfl⟩
  rw [← h6]
  have sz6 : a6.tmps.size = 99 := by rw [h6, size_put]; exact sz5
  have e6_9 : a6.eval (.tmp 9) = .pointer (some ⟨g, 0, none⟩) := by rw [h6, eval_put_ne _ _ _ _ (by decide)]; exact e5_9
  have e6_71 : a6.eval (.tmp 71) = .slice (adv sa cap p) (n - p) (cap - p) := by rw [h6, eval_put_ne _ _ _ _ (by decide)]; exact e5_71
  have e6_73 : a6.eval (.tmp 73) = .int .i64 ((n : Nat) : Int) := by rw [h6, eval_put_ne _ _ _ _ (by decide)]; exact e5_73
  have e6_68 : a6.eval (.tmp 68) = .agg (VN .i64 L) := by rw [h6]; exact eval_put_eq _ _ _ (by rw [sz5]; decide)
  clear e5_71 e5_73 e5_9 sz5
  refine readyH opRs15_6 (by kernel_rfl) (fun o ho hd => wpCall (v := .agg (VN .i64 M)) ho hd (args := #[.agg (VN .i64 L), .slice (adv sa cap p) (n - p) (cap - p), .int .i64 ((n : Nat) : Int), .bool true]) (by simp only [List.map_toArray, List.map_cons, List.map_nil, e6_68, e6_71, e6_73] <;> rfl) (fun _ => rfl) (HK0.out  w0 hw0) (fun w1 hw1 => ?_))
  have hH := HS1  w1 hw1
  refine ⟨hH, ?_⟩
  refine wpAnyH_as (l' := #[true, true, true, true, true, true, true, false]) (by kernel_rfl) ?_
  obtain ⟨a7, h7⟩ : ∃ a' : Act, a' = a6.put (some 74) (.agg (VN .i64 M)) := ⟨_, rfl⟩
  rw [← h7]
  have sz7 : a7.tmps.size = 99 := by rw [h7, size_put]; exact sz6
  have e7_9 : a7.eval (.tmp 9) = .pointer (some ⟨g, 0, none⟩) := by rw [h7, eval_put_ne _ _ _ _ (by decide)]; exact e6_9
  have e7_74 : a7.eval (.tmp 74) = .agg (VN .i64 M) := by rw [h7]; exact eval_put_eq _ _ _ (by rw [sz6]; decide)
  clear e6_68 e6_71 e6_73 e6_9 sz6
  refine readyH opRs15_7 (by kernel_rfl) (fun o ho hd => HK1.out  w1 hw1 _ o _ _ ho hd e7_9 e7_74 (fun  w2 hw2 => ?_))
  have hH := HS2  w2 hw2
  refine ⟨hH, ?_⟩
  refine wpAnyH_as (l' := #[true, true, true, true, true, true, true, true]) (by kernel_rfl) ?_
  refine wpAnyH_done (by kernel_rfl) ?_ _
  have hF : a7 = ⟨#[c0, c1, c2, c3, c4, c5, c6, c7, .slice sa n cap, .pointer (some ⟨g, 0, none⟩), .int .i64 ((p : Nat) : Int), c11, c12, c13, c14, c15, c16, c17, c18, c19, c20, c21, c22, c23, c24, c25, c26, c27, c28, c29, c30, c31, c32, c33, c34, c35, c36, c37, c38, c39, c40, c41, c42, c43, c44, c45, c46, c47, c48, c49, c50, c51, c52, c53, c54, c55, c56, c57, c58, c59, c60, c61, c62, c63, c64, c65, c66, c67, .agg (VN .i64 L), .slice sa n cap, .int .i64 ((p : Nat) : Int), .slice (adv sa cap p) (n - p) (cap - p), .slice sa n cap, .int .i64 ((n : Nat) : Int), .agg (VN .i64 M), c75, c76, c77, c78, c79, c80, c81, c82, c83, c84, c85, c86, c87, c88, c89, c90, c91, c92, c93, c94, c95, c96, c97, c98], []⟩ := by rw [h7, h6, h5, h4, h3, h2, h1, ha]; kernel_rfl
  rw [hF]
  exact H  _ hw2
end Go.Proofs.YtfkbgodfcnmepaaDoor
namespace Go.Proofs.YtfkbgodfcnmepaaDoor
set_option linter.unusedSimpArgs false
set_option linter.unusedVariables false
open Go.ChangeShapes Go.WideShapes Go.ChangeAt Go.RowKit Go.Pin Go.Str Go.Dig
theorem LE.ev {T : TypeId} {sz : Nat} {v : Value} {n : Nat} {xs : List Value} {B : Nat} {w : World} {rv : Value} {l : List (Int × Int)} {bx : List (Nat × Obj)} {W : World} (h : LE T sz v n xs B w rv l bx W) : Ev B w rv l bx W := by
  obtain ⟨lb, _, h2, _⟩ := h
  exact h2.sub (fun p hp => List.mem_append_right _ hp)
theorem LE.below {T : TypeId} {sz : Nat} {v : Value} {n : Nat} {xs : List Value} {B : Nat} {w : World} {rv : Value} {l : List (Int × Int)} {bx : List (Nat × Obj)} {W W' : World} (h : LE T sz v n xs B w rv l bx W) (hb : Below W.heap.size W W') : LE T sz v n xs B w rv l bx W' := by
  obtain ⟨lb, h1, h2, h3⟩ := h
  exact ⟨lb, h1, h2.below hb, h3⟩
theorem LE.slice {T : TypeId} {sz : Nat} {v : Value} {n : Nat} {xs : List Value} {B : Nat} {w : World} {rv : Value} {l : List (Int × Int)} {bx : List (Nat × Obj)} {W : World} (h : LE T sz v n xs B w rv l bx W) : ∃ a c, v = .slice a n c := by
  obtain ⟨lb, h1, _, _⟩ := h
  exact h1.slice'
theorem LE.appB {v : Value} {n : Nat} {A D : List Int} {B : Nat} {w : World} {rv : Value} {l : List (Int × Int)} {bx : List (Nat × Obj)} {W : World} (h : LE 5 1 v n (A.map (Value.int .u8)) B w rv l bx W) (ty : TypeId) {u : Value} (hS : Src B w bx u D) (hn : n + D.length ≤ 1000000) :
    ∃ v' w', (Builtin.append_ #[22, 22] ty #[v, u]).run Tryd.prog W = .ok v' w' ∧ LE 5 1 v' (n + D.length) ((A ++ D).map (Value.int .u8)) B w rv l bx w' := by
  obtain ⟨lb, h1, h2, h3⟩ := h
  exact h2.appB h1 h3 ty hS hn
theorem LE.app1 {v : Value} {n : Nat} {A : List Int} {B : Nat} {w : World} {rv : Value} {l : List (Int × Int)} {bx : List (Nat × Obj)} {W : World} (h : LE 5 1 v n (A.map (Value.int .u8)) B w rv l bx W) (ty : TypeId) (y : Int) (hn : n ≤ 1000000) :
    ∃ v' w', (Builtin.append_ #[22, 22] ty #[v, .slice (some ⟨W.heap.size, 0, none⟩) 1 1]).run Tryd.prog (W.alloc (.cells #[.int .u8 y] 5)) = .ok v' w' ∧ LE 5 1 v' (n + 1) ((A ++ [y]).map (Value.int .u8)) B w rv l bx w' := by
  obtain ⟨lb, h1, h2, h3⟩ := h
  exact (h2.below ((Below.refl _ _).alloc (Nat.le_refl _) _)).app1 h1 h3 ty (heap_alloc_new W _) hn
theorem row_range {W : World} {g : Nat} {L : List Int} {k : IntKind} {T : TypeId} {fr : Nat × Nat} (h : W.heap[g]? = some (.cells (VI k L) T fr)) : W.rangeAt g 0 (L.map (Value.int k)) := fun j v hv => by
  rw [cell_of_row W _ _ _ _ _ h, Nat.zero_add]
  simpa [VI] using hv
/-- the document's state beside the bytes -/
def PH (q : Nat) (W : World) (A : List Int) (v : Value) (g : Nat) (L : List Nat) (w' : World) : Prop :=
  ∃ lb, Lst 5 1 v A.length (A.map (Value.int .u8)) lb ∧ Ev q W (.pointer none) [] ((g, .cells (VN .i64 L) 78) :: lb) w' ∧ (∀ p ∈ lb, p.1 ≠ g)
section
variable {q : Nat} {W : World} {A : List Int} {v : Value} {g : Nat} {L : List Nat} {w' w2 : World}
theorem PH.row (h : PH q W A v g L w') : w'.heap[g]? = some (.cells (VN .i64 L) 78) := by
  obtain ⟨lb, h1, h2, h3⟩ := h
  exact h2.row mem0
theorem PH.range (h : PH q W A v g L w') : w'.rangeAt g 0 ((L.map Int.ofNat).map (Value.int .i64)) := row_range h.row
theorem PH.below (h : PH q W A v g L w') (hb : Below w'.heap.size w' w2) : PH q W A v g L w2 := by
  obtain ⟨lb, h1, h2, h3⟩ := h
  exact ⟨lb, h1, h2.below hb, h3⟩
theorem PH.drew (h : PH q W A v g L w') : PH q W A v g L w'.drew := by
  obtain ⟨lb, h1, h2, h3⟩ := h
  exact ⟨lb, h1, h2.drew, h3⟩
theorem PH.ev (h : PH q W A v g L w') : Ev q W (.pointer none) [] [(g, .cells (VN .i64 L) 78)] w' := by
  obtain ⟨lb, h1, h2, h3⟩ := h
  exact h2.sub (fun p hp => by rw [List.mem_singleton.1 hp]; exact mem0)
theorem PH.set (h : PH q W A v g L w') (i x : Nat) : PH q W A v g (L.set i x) (w'.setCell ⟨g, i, none⟩ (.int .i64 (x : Int))) := by
  obtain ⟨lb, h1, h2, h3⟩ := h
  refine ⟨lb, h1, h2.set rfl h3 ((Grow.refl (fun k => k = g) w').setCell (p := ⟨g, i, none⟩) (.inl rfl) _) ?_, h3⟩
  rw [heap_setCell_same w' _ _ _ _ _ (h2.row mem0), VN_set]
theorem PH.put (h : PH q W A v g L w') {M : List Nat} (hM : M.length = L.length) : PH q W A v g M (w'.setCells g 0 (VN .i64 M).toList) := by
  obtain ⟨lb, h1, h2, h3⟩ := h
  exact ⟨lb, h1, h2.storeRow (L' := M.map Int.ofNat) h3 (by simp [hM]), h3⟩
/-- a block of the bytes is pressed -/
theorem PH.press {a : Option Addr} {n cap : Nat} (h : PH q W A (.slice a n cap) g L w') (hA : Byb A) (hL : S8 L) {x y c : Nat} {last : Bool} {mk : Nat} (hmk : mk < 4294967296 ∧ (last = true → mk = 4294967295) ∧ (last = false → mk = 0)) (hxy : x ≤ y) (hy : y ≤ n) (h64 : y - x ≤ 64) (hc : c < 9223372036854775808) :
    Calls Tryd.prog 33 #[.agg (VN .i64 L), .slice (adv a cap x) (y - x) (cap - x), .int .i64 (c : Int), .bool last] w' fun e w2 => e = .returned (.agg (VN .i64 (prs L ((A.drop x).take (y - x)) c mk))) ∧ PH q W A (.slice a n cap) g L w2 := by
  obtain ⟨lb, h1, h2, h3⟩ := h
  have hn : A.length = n := by
    obtain ⟨a', c', e⟩ := h1.slice'
    injection e with _ e _; exact e.symm
  have hs : Src q W ((g, .cells (VN .i64 L) 78) :: lb) (.slice a n cap) A := by
    have := h1.src (B := q) (w := W) (bx := (g, .cells (VN .i64 L) 78) :: lb) (fun p hp => List.mem_cons_of_mem _ hp)
    exact this
  have hm := hs.mid x y hxy hy
  have hl : ((A.drop x).take (y - x)).length = y - x := by rw [List.length_take, List.length_drop, hn]; omega
  refine (rpress L hL ((A.drop x).take (y - x)) (fun z hz => hA z (List.mem_of_mem_drop (List.mem_of_mem_take hz))) (adv a cap x) (y - x) (cap - x) hl h64 c hc last mk hmk w' (hm.rdb h2)).mono ?_
  rintro e w2 ⟨rfl, hb⟩
  exact ⟨rfl, lb, h1, h2.below hb, h3⟩
theorem PH.out (h : PH q W A v g L w') : LE 5 1 (.slice none 0 0) 0 (([] : List Int).map (Value.int .u8)) q W (.pointer none) [] [(g, .cells (VN .i64 L) 78)] w' := ⟨[], lst_nil _ _, h.ev, (fun p hp => nomatch hp)⟩
end
theorem LE.box {T : TypeId} {v : Value} {A : List Int} {q : Nat} {W w' : World} (h : LE 5 1 v A.length (A.map (Value.int .u8)) q W (.pointer none) [] [] w') (L : List Nat) : PH q W A v w'.heap.size L (w'.alloc (.cells (VN .i64 L) 78)) := by
  obtain ⟨lb, h1, h2, h3⟩ := h
  rw [List.append_nil] at h2
  exact ⟨lb, h1, h2.new _, fun p hp => by have := heap_lt (h2.at' p hp); omega⟩
end Go.Proofs.YtfkbgodfcnmepaaDoor
