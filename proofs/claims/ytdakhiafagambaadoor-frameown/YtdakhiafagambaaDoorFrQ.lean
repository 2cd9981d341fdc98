import Derived.Test.YtdakhiafagambaaDoorFrF
import Derived.Laws.CopyOwn
/- stage 20: the program's Put -/
namespace Go.Proofs.YtdakhiafagambaaDoor
set_option linter.unusedSimpArgs false
set_option linter.unusedVariables false
open Go.ChangeShapes Go.WideShapes Go.ChangeAt Go.RowKit Go.Pin
theorem run_cut3 (w : World) (a : Option Addr) (n cap x y : Nat) (x' y' : Int) (hx : x' = (x : Int)) (hy : y' = (y : Int)) (hxy : x ≤ y) (hyn : y ≤ cap) : (Instr.slice 22 (.slice a n cap) (some (.int .i64 x')) (some (.int .i64 y')) (some (.int .i64 y'))).run Tryd.prog w = .ok (.slice (if y = x then a else a.map (·.add x)) (y - x) (y - x)) w := by
  subst hx; subst hy
  have h1 : ((x : Nat) : Int) ≤ (y : Int) := by omega
  have h2 : ((y : Nat) : Int) ≤ (cap : Int) := by omega
  simp [Instr.slice, run_underlying Tryd.underlying22, Instr.sliceBounds, run_sliceBound, size_u8, sliced, h1, h2, hxy, hyn]
theorem run_new3 (w : World) (q N : Nat) (N' : Int) (hN : N' = (N : Int)) (h0 : 0 < N) : (Instr.slice 22 (.slice (some ⟨q, 0, none⟩) N N) none (some (.int .i64 0)) (some (.int .i64 N'))).run Tryd.prog w = .ok (.slice (some ⟨q, 0, none⟩) 0 N) w := by
  subst hN
  have e1 : ¬ N = 0 := by omega
  have e2 : (⟨q, 0, none⟩ : Addr).add 0 = ⟨q, 0, none⟩ := add_mid q 0 0
  simp [Instr.slice, run_underlying Tryd.underlying22, Instr.sliceBounds, run_sliceBound, size_u8, sliced, e1, e2]
theorem own_made (w : World) (N : Nat) (hN : N ≤ 1000000) : (w.alloc (.cells (VI .u8 (List.replicate N 0)) 5)).ownsRow w.heap.size 5 1 (.slice (some ⟨w.heap.size, 0, none⟩) 0 N) 0 (([] : List Int).map (Value.int .u8)) :=
  ⟨rfl, .inr ⟨_, N, _, rfl, Nat.le_refl _, heap_alloc_new _ _, Nat.zero_le _, by unfold maxLen; omega, by simp [VI], by simp⟩⟩
set_option maxRecDepth 100000 in
set_option maxHeartbeats 8000000 in
theorem pput_any : PutC := by
  intro ea W vd vm D M hE hd hm hD hM
  have hdB := fun Y (hY : Below W.heap.size W Y) => hd.below hY
  have hmB := fun Y (hY : Below W.heap.size W Y) => hm.below hY
  obtain ⟨ad, cd, rfl, -⟩ := id hd
  obtain ⟨am, cm, rfl, -⟩ := id hm
  obtain ⟨q, hq⟩ : ∃ q, W.heap.size = q := ⟨_, rfl⟩
  obtain ⟨nD, hnD⟩ : ∃ n, D.length = n := ⟨_, rfl⟩
  obtain ⟨nM, hnM⟩ : ∃ n, M.length = n := ⟨_, rfl⟩
  simp only [hq, hnD, hnM] at hdB hmB hD hM ⊢
  have HD : Hid (∀ Y, Below q W Y → RdB Y (.slice ad nD cd) D) := hdB
  have HM : Hid (∀ Y, Below q W Y → RdB Y (.slice am nM cm) M) := hmB
  have HL : Hid (D.length = nD ∧ M.length = nM ∧ nD ≤ 300000 ∧ nM ≤ 300000 ∧ W.heap.size = q) := ⟨hnD, hnM, hD, hM, hq⟩
  have he3 := (hE 3 (by decide)).1
  simp only [eblk] at he3
  clear hdB hmB hd hm hnD hnM hE
  by_cases hlong : 65535 < nM
  · have c1 : (nM : Int) > 65535 := by omega
    have c2 : (65535 : Int) < (nM : Int) := by omega
    have HLg : Hid (65535 < nM) := hlong
    clear hlong hD hM hq
    go_enter Tryd.func10, Tryd.ntmps10
    go_upto_region 2 with (fail)
    go_quiet (fail)
    go_wp2
    go_ret2
    exact ⟨_, 3, rfl, ⟨fun _ => ⟨rfl, rfl⟩, fun h => absurd HLg.out h⟩, drewN_below (Below.refl _ _) _⟩
  · have c1 : ¬ (nM : Int) > 65535 := by omega
    have c2 : ¬ (65535 : Int) < (nM : Int) := by omega
    obtain ⟨N, hN⟩ : ∃ N, nD + 2 + nM = N := ⟨_, rfl⟩
    have HN : Hid (nD + 2 + nM = N) := hN
    have hNi : (nD : Int) + 2 + (nM : Int) = (N : Int) := by omega
    have hmk := mk_b N (N : Int) rfl (by omega) W
    have hom := own_made W N (by omega)
    obtain ⟨W0, hW0⟩ : ∃ W0, W.alloc (.cells (VI .u8 (List.replicate N 0)) 5) = W0 := ⟨_, rfl⟩
    have hb0 : Below q W W0 := by rw [← hW0, ← hq]; exact (Below.refl _ _).alloc (Nat.le_refl _) _
    rw [hW0, hq] at hmk hom
    have hq0 : q ≤ W0.heap.size := by have := hb0.size; omega
    have happ := app_rd (q := q) (W := W) (X := []) hom (HD.out W0 hb0) (by have := HL.out; omega) hq0 hb0
    rw [HL.out.1] at happ
    simp only [Nat.zero_add, List.nil_append] at happ
    have HA1 : Hid _ := happ
    have hrc := run_new3 W0 q N (N : Int) rfl (by omega)
    have HLg : Hid (¬ 65535 < nM) := hlong
    have e1 : (nM : Int).fdiv 256 = ((nM / 256 : Nat) : Int) := by rw [Int.fdiv_eq_ediv_of_nonneg _ (by omega)]; rfl
    have e3 : IntKind.u8.wrap ((nM / 256 : Nat) : Int) = ((nM / 256 : Nat) : Int) := by rw [IntKind.wrap_u8']; omega
    have e4 : IntKind.u8.wrap (nM : Int) = ((nM % 256 : Nat) : Int) := by rw [IntKind.wrap_u8']; omega
    clear hlong happ hom hb0 hq0 hW0 hq hN
    go_enter Tryd.func10, Tryd.ntmps10
    go_upto_region 5 with (at_builtin; go_loud (refine wpList_app _ rfl _ _ 22 22 rfl _ _ rfl rfl HA1.out ?_; rintro v1 w1 ⟨ho1, hb1, ⟨a1, k1, rfl⟩⟩; have H1 : Hid (w1.ownsRow q 5 1 (.slice a1 nD k1) nD (D.map (Value.int .u8)) ∧ Below q W w1) := ⟨ho1, hb1⟩; clear ho1 hb1 HA1))
    have hal : Below w1.heap.size w1 (w1.alloc (.cells #[.int .u8 ((nM / 256 : Nat) : Int), .int .u8 ((nM % 256 : Nat) : Int)] 5)) := (Below.refl _ _).alloc (Nat.le_refl _) _
    have hqw : q ≤ w1.heap.size := by have := H1.out.2.size; have := HL.out; omega
    have hrd : RdB (w1.alloc (.cells #[.int .u8 ((nM / 256 : Nat) : Int), .int .u8 ((nM % 256 : Nat) : Int)] 5)) (.slice (some ⟨w1.heap.size, 0, none⟩) 2 2) [((nM / 256 : Nat) : Int), ((nM % 256 : Nat) : Int)] := row_rd (M := [((nM / 256 : Nat) : Int), ((nM % 256 : Nat) : Int)]) (heap_alloc_new _ _) (Nat.le_refl _) (Nat.le_refl _) (by decide)
    have happ := app_rd (W := W) (owns_below hal H1.out.1) hrd (by have := HL.out; simp; omega) (by have := hal.size; omega) (H1.out.2.trans (hal.mono hqw))
    simp only [List.length_cons, List.length_nil, Nat.zero_add, Nat.reduceAdd] at happ
    have HA2 : Hid _ := happ
    clear happ hrd hal hqw
    go_upto_region 6 with (at_builtin; go_loud (refine wpList_app _ rfl _ _ 22 22 rfl _ _ rfl rfl HA2.out ?_; rintro v2 w2 ⟨ho2, hb2, ⟨a2, k2, rfl⟩⟩; have H2 : Hid (w2.ownsRow q 5 1 (.slice a2 (nD + 2) k2) (nD + 2) ((D ++ [((nM / 256 : Nat) : Int), ((nM % 256 : Nat) : Int)]).map (Value.int .u8)) ∧ Below q W w2) := ⟨ho2, hb2⟩; clear ho2 hb2 HA2))
    have happ := app_rd (W := W) H2.out.1 (HM.out w2 H2.out.2) (by have := HL.out; omega) (by have := H2.out.2.size; have := HL.out; omega) H2.out.2
    rw [HL.out.2.1] at happ
    have HA3 : Hid _ := happ
    clear happ
    go_wp2_with (at_builtin; go_loud (refine wpList_app _ rfl _ _ 22 22 rfl _ _ rfl rfl HA3.out ?_; rintro v3 w3 ⟨ho3, hb3, ⟨a3, k3, rfl⟩⟩; have H3 : Hid (w3.ownsRow q 5 1 (.slice a3 (nD + 2 + nM) k3) (nD + 2 + nM) ((D ++ [((nM / 256 : Nat) : Int), ((nM % 256 : Nat) : Int)] ++ M).map (Value.int .u8)) ∧ Below q W w3) := ⟨ho3, hb3⟩; clear ho3 hb3 HA3))
    go_ret2
    refine ⟨.slice a3 (nD + 2 + nM) k3, 0, rfl, ⟨fun h => absurd h HLg.out, fun _ => ⟨rfl, ?_⟩⟩, H3.out.2⟩
    have hx := H3.out.1
    rw [List.append_assoc] at hx
    unfold frm
    rw [HL.out.2.1]
    simpa using hx
end Go.Proofs.YtdakhiafagambaaDoor
