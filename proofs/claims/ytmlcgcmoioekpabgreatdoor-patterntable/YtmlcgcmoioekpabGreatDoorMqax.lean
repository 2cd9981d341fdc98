import Derived.Sort.OwnSortedInts
import Derived.Test.YtmlcgcmoioekpabGreatDoorMqaw
import Derived.Test.YtmlcgcmoioekpabGreatDoorMqao
import Derived.Test.YtmlcgcmoioekpabGreatDoorMqal
/- slices.Concat of two lists, slices.Sort of a list of one's own -/
namespace Go.Proofs.YtmlcgcmoioekpabGreatDoor
set_option linter.unusedSimpArgs false
set_option linter.unusedVariables false
set_option maxRecDepth 100000
open Go.ChangeShapes Go.WideShapes Go.ChangeAt Go.RowKit Go.Pin Go.Pat
theorem grow_nil (n : Nat) (hn : n ≤ 10000) (w : World) :
    Calls Tryz.prog 76 #[.slice none 0 0, .int .i64 n] w fun e w' => ∃ v, e = .returned v ∧ w'.ownsRow w.heap.size 3 1 v 0 [] ∧ Below w.heap.size w w' := by
  by_cases h0 : n = 0
  · subst h0
    refine (Any8.slices_Grow_room Tryz.laysGrw none 0 0 0 w (Nat.le_refl _) (by omega) (by omega) (by omega)).mono ?_
    rintro e w' ⟨rfl, rfl⟩
    exact ⟨_, rfl, ⟨rfl, .inl ⟨rfl, rfl⟩⟩, Below.refl _ _⟩
  · obtain ⟨i0, hi, hz⟩ := Option.map_eq_some_iff.1 (show (Tryz.prog.info? 3).map (fun i => (i.zero, i.size, i.bytes)) = some (some (.int .i64 0), 1, 8) by kernel_rfl)
    simp only [Prod.mk.injEq] at hz
    obtain ⟨z1, z2, z3⟩ := hz
    refine (Any8.slices_Grow_grow Tryz.laysGrw i0 (.int .i64 0) hi z1 (by rw [z2]; decide) none 0 0 n [] w (Nat.le_refl _) (by omega) (by rw [z3]; omega) (by omega) (by simp) (fun _ => rfl) (fun a h => by cases h)).mono ?_
    rintro e w' ⟨rfl, rfl⟩
    obtain ⟨gc, hgc⟩ : ∃ gc, grownCap w (0 + n) 0 (Tryz.laysGrw_ren.t 25) = gc := ⟨_, rfl⟩
    have hge : 0 + n ≤ gc := by rw [← hgc]; exact grownCap_ge _ _ _ _
    have hle : gc ≤ maxLen := by rw [← hgc]; exact grownCap_le_maxLen _ _ _ _ (by unfold maxLen; omega)
    rw [hgc]
    refine ⟨_, rfl, ⟨rfl, .inr ⟨w.heap.size, gc, _, rfl, Nat.le_refl _, heap_alloc_new _ _, Nat.zero_le _, hle, ?_, by simp⟩⟩, ((Below.refl _ _).drew).alloc (Nat.le_refl _) _⟩
    simp [size_zeroCells, Value.cells]
    omega
set_option maxHeartbeats 4000000 in
theorem concat2 (sb : Nat) (u0 u1 : Value) (A B : List Int) (w : World) (hs : w.heap[sb]? = some (.cells #[u0, u1] 22)) (h0 : RdN w u0 A) (h1 : RdN w u1 B) (hA : A.length ≤ 1000) (hB : B.length ≤ 1000) :
    Calls Tryz.prog 63 #[.slice (some ⟨sb, 0, none⟩) 2 2] w fun e w' => ∃ x, e = .returned x ∧ w'.ownsRow w.heap.size 3 1 x (A ++ B).length ((A ++ B).map (Value.int .i64)) ∧ Below w.heap.size w w' := by
  obtain ⟨a0, k0, rfl, -⟩ := id h0
  obtain ⟨a1, k1, rfl, -⟩ := id h1
  have hsb := (Array.getElem?_eq_some_iff.1 hs).1
  have HA : Hid (∀ Y, Below w.heap.size w Y → RdN Y (.slice a0 A.length k0) A) := fun Y h => h0.below h
  have HB : Hid (∀ Y, Below w.heap.size w Y → RdN Y (.slice a1 B.length k1) B) := fun Y h => h1.below h
  have HC : Hid (∀ Y, Below w.heap.size w Y → Y.cell? ⟨sb, 0, none⟩ = some (.slice a0 A.length k0) ∧ Y.cell? ⟨sb, 1, none⟩ = some (.slice a1 B.length k1)) := fun Y h => by
    have hs' := (h.block sb hsb).trans hs
    exact ⟨by rw [cell_of_row _ _ _ _ _ _ hs']; rfl, by rw [cell_of_row _ _ _ _ _ _ hs']; rfl⟩
  obtain ⟨na, hna⟩ : ∃ na, A.length = na := ⟨_, rfl⟩
  obtain ⟨nb, hnb⟩ : ∃ nb, B.length = nb := ⟨_, rfl⟩
  have HN : Hid (A.length = na ∧ B.length = nb ∧ na ≤ 1000 ∧ nb ≤ 1000) := ⟨hna, hnb, by omega, by omega⟩
  simp only [hna, hnb] at HA HB HC hA hB hs
  have e0 := (HC.out w (Below.refl _ _)).1
  have e1 := (HC.out w (Below.refl _ _)).2
  have b0 : (na : Int) ≤ 1000 := by omega
  have b1 : (nb : Int) ≤ 1000 := by omega
  have b2 : (0 : Int) ≤ (na : Int) := by omega
  have b3 : (0 : Int) ≤ (nb : Int) := by omega
  clear h0 h1 hs hna hnb hA hB
  go_enter Tryz.func63, Tryz.ntmps63
  go_wp2
  go_loopw [3, 11] (fun v3 v11 wr => wr = w ∧ ((v11 = .int .i64 0 ∧ v3 = .int .i64 0) ∨ (v11 = .int .i64 1 ∧ v3 = .int .i64 na) ∨ (v11 = .int .i64 2 ∧ v3 = .int .i64 (na + nb : Nat)))) (fun _ v _ => 2 - (intOf v).toNat)
  case atStart => exact ⟨rfl, .inl ⟨rfl, rfl⟩⟩
  case round =>
    obtain ⟨hw, h⟩ := hrel
    rw [hw]
    clear hw
    rcases h with ⟨rfl, rfl⟩ | ⟨rfl, rfl⟩ | ⟨rfl, rfl⟩
    · have c1 : ¬ (0 : Int) + (na : Int) < 0 := by omega
      have c2 : ¬ (na : Int) < 0 := by omega
      go_wp2
      exact ⟨⟨trivial, .inr (.inl ⟨rfl, rfl⟩)⟩, by decide⟩
    · have c2 : ¬ (na : Int) + (nb : Int) < 0 := by omega
      go_wp2
      exact ⟨⟨trivial, .inr (.inr ⟨rfl, rfl⟩)⟩, by decide⟩
    · have CG := grow_nil (na + nb) (by omega) w
      have c3 : ((na + nb : Nat) : Int) = (na : Int) + (nb : Int) := by omega
      rw [c3] at CG ⊢
      go_upto_region 10 with (go_at_call 76; refine CG.mono ?_; rintro e w2 ⟨x, rfl, hx, hb⟩; obtain ⟨ax, cx, rfl⟩ := own_slice' hx; have H2 : Hid (w2.ownsRow w.heap.size 3 1 (.slice ax 0 cx) 0 [] ∧ Below w.heap.size w w2) := ⟨hx, hb⟩; clear hx hb CG)
      clear e0 e1
      go_wp2
      go_loopw [6, 27] (fun v6 v27 wq => Below w.heap.size w wq ∧ ((v27 = .int .i64 0 ∧ wq.ownsRow w.heap.size 3 1 v6 0 []) ∨ (v27 = .int .i64 1 ∧ wq.ownsRow w.heap.size 3 1 v6 na (A.map (Value.int .i64))) ∨ (v27 = .int .i64 2 ∧ wq.ownsRow w.heap.size 3 1 v6 (na + nb) ((A ++ B).map (Value.int .i64))))) (fun _ v _ => 2 - (intOf v).toNat)
      case atStart => exact ⟨H2.out.2, .inl ⟨rfl, H2.out.1⟩⟩
      case round =>
        obtain ⟨hB, hh⟩ := hrel
        have k0 := (HC.out wr hB).1
        have k1 := (HC.out wr hB).2
        have hws : w.heap.size ≤ wr.heap.size := hB.size
        have HBW : Hid (Below w.heap.size w wr) := hB
        rcases hh with ⟨rfl, ho⟩ | ⟨rfl, ho⟩ | ⟨rfl, ho⟩
        · obtain ⟨a6, c6, rfl⟩ := own_slice' ho
          have HAP : Hid _ := own_appN ho (HA.out wr hB) (by have := HN.out; omega) hws
          have HO : Hid (wr.ownsRow w.heap.size 3 1 (.slice a6 0 c6) 0 []) := ho
          clear hB ho
          go_wp2_with (at_builtin; go_loud (refine wpList_app _ rfl (.tmp 31) (.tmp 32) 22 22 rfl _ _ rfl rfl HAP.out ?_; rintro v' w' ⟨h1, h2, -⟩; obtain ⟨an, cn, rfl⟩ := own_slice' h1; have H7 : Hid (w'.ownsRow w.heap.size 3 1 (.slice an (0 + A.length) cn) (0 + A.length) ([] ++ A.map (Value.int .i64)) ∧ Below w.heap.size w w') := ⟨h1, HBW.out.grown h2 HBW.out.size (fun k hk => (HO.out.lt k hk).1)⟩; clear h1 h2))
          refine ⟨⟨H7.out.2, .inr (.inl ⟨rfl, ?_⟩)⟩, by decide⟩
          have := H7.out.1
          rw [Nat.zero_add, List.nil_append, HN.out.1] at this
          rw [HN.out.1]
          exact this
        · obtain ⟨a6, c6, rfl⟩ := own_slice' ho
          have HAP : Hid _ := own_appN ho (HB.out wr hB) (by have := HN.out; omega) hws
          have HO : Hid (wr.ownsRow w.heap.size 3 1 (.slice a6 na c6) na (A.map (Value.int .i64))) := ho
          clear hB ho
          go_wp2_with (at_builtin; go_loud (refine wpList_app _ rfl (.tmp 31) (.tmp 32) 22 22 rfl _ _ rfl rfl HAP.out ?_; rintro v' w' ⟨h1, h2, -⟩; obtain ⟨an, cn, rfl⟩ := own_slice' h1; have H7 : Hid (w'.ownsRow w.heap.size 3 1 (.slice an (na + B.length) cn) (na + B.length) (A.map (Value.int .i64) ++ B.map (Value.int .i64)) ∧ Below w.heap.size w w') := ⟨h1, HBW.out.grown h2 HBW.out.size (fun k hk => (HO.out.lt k hk).1)⟩; clear h1 h2))
          refine ⟨⟨H7.out.2, .inr (.inr ⟨rfl, ?_⟩)⟩, by decide⟩
          have := H7.out.1
          rw [HN.out.2.1] at this
          rw [HN.out.2.1, List.map_append]
          exact this
        · obtain ⟨a6, c6, rfl⟩ := own_slice' ho
          have HO : Hid (wr.ownsRow w.heap.size 3 1 (.slice a6 (na + nb) c6) (na + nb) ((A ++ B).map (Value.int .i64))) := ho
          clear hB ho
          go_wp2
          go_ret
          exact ⟨_, rfl, by rw [List.length_append, HN.out.1, HN.out.2.1]; exact HO.out, HBW.out⟩
theorem sort_own (base : Nat) (v : Value) (C : List Int) (w : World) (h : w.ownsRow base 3 1 v C.length (C.map (Value.int .i64))) (hC : C.length ≤ 1000) :
    Calls Tryz.prog 64 #[v] w fun e w' => e = .returned (.tuple #[]) ∧ w'.ownsRow base 3 1 v C.length ((C.mergeSort fun x y => decide (x ≤ y)).map (Value.int .i64)) ∧ w.grownBy w' v.ownBlock := by
  rcases id h.2 with ⟨rfl, h0⟩ | ⟨g, cap, cur, rfl, h1, h2, h3, h4, h5, h6⟩
  · obtain rfl : C = [] := List.length_eq_zero_iff.1 h0
    refine (Tryz.slices_Sort_int_none none 0 w).mono ?_
    rintro e w' ⟨rfl, rfl⟩
    exact ⟨rfl, by simpa using h, World.grownBy.refl _ _⟩
  · refine (Tryz.slices_Sort_int g 0 cap C w (Go.holds_of_blockI h2 (by rw [Nat.mul_one] at h6; exact h6)) (Array.getElem?_eq_some_iff.1 h2).1 (by omega)).mono ?_
    rintro e w' ⟨rfl, n, os, rfl⟩
    exact ⟨rfl, Go.ownsRow_sortedI (by simp) h1 h2 h3 h4 h5, Go.grownBy_sortedI _⟩
end Go.Proofs.YtmlcgcmoioekpabGreatDoor
namespace Go.Proofs.YtmlcgcmoioekpabGreatDoor
set_option linter.unusedSimpArgs false
set_option linter.unusedVariables false
set_option maxRecDepth 100000
open Go.ChangeShapes Go.WideShapes Go.ChangeAt Go.RowKit Go.Pin Go.Pat Go.Deep
/-- what fallback makes known -/
def srt (A : List Int) : List Int := A.mergeSort fun x y => decide (x ≤ y)
/-- what fallBack answers -/
def FbP (base m : Nat) (nm : ByteArray) (v0 v1 : Value) (b0 b1 : List Int) (f : Int) (ts : List Int) (r : List Lv) (w : World) (e : Ending) (w' : World) : Prop :=
  Below base w w' ∧ e = .returned (.bool (ahd ts)) ∧ (ahd ts = true → ∃ x vl, (f = 0 ∧ MB base m nm x v1 vl (srt (b0 ++ ts)) b1 r w') ∨ (f = 1 ∧ MB base m nm v0 x vl b0 (srt (b1 ++ ts)) r w'))
/-- the box of the first line beside it -/
structure F3 (base m nb : Nat) (nm : ByteArray) (v0 v1 vl : Value) (f : Int) (u : Value) (w : World) : Prop where
  row : w.heap[m]? = some (.cells #[.string nm, v0, v1, vl] 26)
  ln : w.heap[nb]? = some (.cells #[.int .i64 f, u] 58)
section
variable {base m nb : Nat} {nm : ByteArray} {v0 v1 vl u : Value} {f : Int} {w w' : World}
theorem F3.c1 (h : F3 base m nb nm v0 v1 vl f u w) : w.cell? ⟨m, 1, none⟩ = some v0 := by rw [cell_of_row _ _ _ _ _ _ h.row]; rfl
theorem F3.c2 (h : F3 base m nb nm v0 v1 vl f u w) : w.cell? ⟨m, 2, none⟩ = some v1 := by rw [cell_of_row _ _ _ _ _ _ h.row]; rfl
theorem F3.c3 (h : F3 base m nb nm v0 v1 vl f u w) : w.cell? ⟨m, 3, none⟩ = some vl := by rw [cell_of_row _ _ _ _ _ _ h.row]; rfl
theorem F3.l0 (h : F3 base m nb nm v0 v1 vl f u w) : w.cell? ⟨nb, 0, none⟩ = some (.int .i64 f) := by rw [cell_of_row _ _ _ _ _ _ h.ln]; rfl
theorem F3.l1 (h : F3 base m nb nm v0 v1 vl f u w) : w.cell? ⟨nb, 1, none⟩ = some u := by rw [cell_of_row _ _ _ _ _ _ h.ln]; rfl
theorem F3.below (h : F3 base m nb nm v0 v1 vl f u w) (hb : Below w.heap.size w w') : F3 base m nb nm v0 v1 vl f u w' :=
  ⟨(hb.block m (Array.getElem?_eq_some_iff.1 h.row).1).trans h.row, (hb.block nb (Array.getElem?_eq_some_iff.1 h.ln).1).trans h.ln⟩
end
theorem MB.tail {base m : Nat} {nm : ByteArray} {v0 v1 : Value} {b0 b1 : List Int} {f : Lv} {r : List Lv} {g o N cp : Nat} {w : World} (hr : r.length = N) (hrow : w.heap[m]? = some (.cells #[.string nm, v0, v1, .slice (some ⟨g, o, none⟩) (N + 1) (cp + 1)] 26)) (hex : EX base [m] [(0, v0, b0), (1, v1, b1)] (f :: r) (.slice (some ⟨g, o, none⟩) (N + 1) (cp + 1)) w) (hb : base ≤ m) {a : Option Addr} (ha : N = 0 ∨ a = some ⟨g, o + 2, none⟩) :
    MB base m nm v0 v1 (.slice a N cp) b0 b1 r (w.setCell ⟨m, 3, none⟩ (.slice a N cp)) := by
  subst hr
  refine ⟨by rw [Go.heap_setCell_same _ _ _ _ _ _ hrow]; rfl, ?_, hb⟩
  exact (hex.tail ha).keep (fun b _ _ hbz => heap_setCell_other _ _ _ _ (by show b ≠ m; exact fun e => hbz (by rw [e]; simp)))
set_option maxHeartbeats 8000000 in
theorem fallBack_any (base m : Nat) (nm : ByteArray) (v0 v1 vl : Value) (b0 b1 : List Int) (f : Int) (u : Value) (ts : List Int) (r : List Lv) (w : World) (h : MB base m nm v0 v1 vl b0 b1 ((f, u, ts) :: r) w) (hf : f = 0 ∨ f = 1) (hn : r.length ≤ 1000) (h0 : b0.length ≤ 400) (h1 : b1.length ≤ 400) (ht : ts.length ≤ 400) :
    Calls Tryz.prog 36 #[.pointer (some ⟨m, 0, none⟩)] w (FbP base m nm v0 v1 b0 b1 f ts r w) := by
  have o0 := h.ex.own (f := (0, v0, b0)) (by simp)
  have o1 := h.ex.own (f := (1, v1, b1)) (by simp)
  have ou := h.ex.own (f := (f, u, ts)) (by simp)
  simp only at o0 o1 ou
  obtain ⟨a0, c0, rfl⟩ := own_slice' o0
  obtain ⟨a1, c1, rfl⟩ := own_slice' o1
  obtain ⟨au, cu, rfl⟩ := own_slice' ou
  obtain ⟨g, o, cap, rfl, hc, hgb, hgs, hgz, x0, x1, -, -, -⟩ := h.ex.at (j := 0) (by simp)
  simp only [List.getD_cons_zero, Nat.zero_mul, Nat.add_zero, List.length_cons] at x0 x1 hc h
  obtain ⟨cp, rfl⟩ : ∃ cp, cap = cp + 1 := ⟨cap - 1, by omega⟩
  obtain ⟨N, hN⟩ : ∃ N, r.length = N := ⟨_, rfl⟩
  rw [hN] at h hc hn
  have k3 := h.c3
  have H : Hid (MB base m nm (.slice a0 b0.length c0) (.slice a1 b1.length c1) (.slice (some ⟨g, o, none⟩) (N + 1) (cp + 1)) b0 b1 ((f, .slice au ts.length cu, ts) :: r) w) := h
  have HN : Hid (r.length = N ∧ N ≤ 1000 ∧ N ≤ cp ∧ b0.length ≤ 400 ∧ b1.length ≤ 400 ∧ ts.length ≤ 400) := ⟨hN, by omega, by omega, h0, h1, ht⟩
  have hal := (Below.refl w.heap.size w).alloc (Nat.le_refl _) (.cells #[.int .i64 f, .slice au ts.length cu] 58)
  have hm1 := h.below hal
  have hln : (w.alloc (.cells #[.int .i64 f, .slice au ts.length cu] 58)).heap[w.heap.size]? = some (.cells #[.int .i64 f, .slice au ts.length cu] 58) := heap_alloc_new _ _
  have hsz : (w.alloc (.cells #[.int .i64 f, .slice au ts.length cu] 58)).heap.size = w.heap.size + 1 := size_alloc _ _
  have hbw : Below base w (w.alloc (.cells #[.int .i64 f, .slice au ts.length cu] 58)) := (Below.refl _ _).alloc (Nat.le_trans h.hb (Nat.le_of_lt h.lt)) _
  obtain ⟨nb, hnb⟩ : ∃ nb, w.heap.size = nb := ⟨_, rfl⟩
  obtain ⟨W1, hW1⟩ : ∃ W1, w.alloc (.cells #[.int .i64 f, .slice au ts.length cu] 58) = W1 := ⟨_, rfl⟩
  rw [hW1] at hm1 hln hsz hbw
  rw [hnb] at hln hsz
  have HM1 : Hid (MB base m nm (.slice a0 b0.length c0) (.slice a1 b1.length c1) (.slice (some ⟨g, o, none⟩) (N + 1) (cp + 1)) b0 b1 ((f, .slice au ts.length cu, ts) :: r) W1) := hm1
  have HS1 : Hid (W1.heap.size = nb + 1 ∧ Below base w W1 ∧ W1.heap[nb]? = some (.cells #[.int .i64 f, .slice au ts.length cu] 58) ∧ m < nb) := ⟨hsz, hbw, hln, by rw [← hnb]; exact h.lt⟩
  have hl1 : W1.cell? ⟨nb, 1, none⟩ = some (.slice au ts.length cu) := by rw [cell_of_row _ _ _ _ _ _ hln]; rfl
  have CI := inOrder_any (.slice au ts.length cu) ts W1 (own_ints (hm1.ex.own (f := (f, .slice au ts.length cu, ts)) (by simp)) (by omega))
  have hmp : (0 : Int) < ((N + 1 : Nat) : Int) := by omega
  clear h o0 o1 ou hN hc hn h0 h1 ht hal hm1 hln hsz hbw hgs
  unfold FbP
  cases ha : ahd ts with
  | false =>
    rw [ha] at CI
    clear ha
    go_enter Tryz.func36, Tryz.ntmps36
    go_wp2_with (go_at_call 57; refine CI.mono ?_; rintro e w' ⟨rfl, rfl⟩)
    go_ret
    exact ⟨HS1.out.2.1, rfl, fun h => by cases h⟩
  | true =>
    rw [ha] at CI
    clear ha
    go_enter Tryz.func36, Tryz.ntmps36
    go_upto_region 4 with (go_at_call 57; refine CI.mono ?_; rintro e w' ⟨rfl, rfl⟩)
    rcases hf with rfl | rfl
    · have hdr := HM1.out.below (Below.refl w'.heap.size w').drew
      have hlnd : w'.drew.heap[nb]? = some (.cells #[.int .i64 0, .slice au ts.length cu] 58) := HS1.out.2.2.1
      have hbd : Below base w w'.drew := HS1.out.2.1.drew
      have hsd : w'.drew.heap.size = nb + 1 := HS1.out.1
      obtain ⟨wd, hwd⟩ : ∃ wd, w'.drew = wd := ⟨_, rfl⟩
      rw [hwd] at hdr hlnd hbd hsd
      have st0 : F3 base m nb nm (.slice a0 b0.length c0) (.slice a1 b1.length c1) (.slice (some ⟨g, o, none⟩) (N + 1) (cp + 1)) 0 (.slice au ts.length cu) wd := ⟨hdr.row, hlnd⟩
      have HD : Hid (MB base m nm (.slice a0 b0.length c0) (.slice a1 b1.length c1) (.slice (some ⟨g, o, none⟩) (N + 1) (cp + 1)) b0 b1 ((0, .slice au ts.length cu, ts) :: r) wd) := hdr
      have HLD : Hid (wd.heap[nb]? = some (.cells #[.int .i64 0, .slice au ts.length cu] 58)) := hlnd
      have HSD : Hid (wd.heap.size = nb + 1 ∧ Below base w wd ∧ m < nb) := ⟨hsd, hbd, HS1.out.2.2.2⟩
      refine Go.Pin.wp_region_hcls (fun Y => F3 base m nb nm (.slice a0 b0.length c0) (.slice a1 b1.length c1) (.slice (some ⟨g, o, none⟩) (N + 1) (cp + 1)) 0 (.slice au ts.length cu) Y) 12 (by rfl) (by kernel_rfl) (by rw [hwd]; exact st0) ?_
      intro Sq fq hNq hRq hSq
      have y1 := fun x => (hRq x).c1
      have y2 := fun x => (hRq x).l0
      have y3 := fun x => (hRq x).l1
      rw [hwd]
      clear hdr hlnd hbd hsd hwd k3 x0 x1 hl1 CI
      refine Go.Pin.takeQ 0 (by simp only [List.getElem?_toArray, List.getElem?_cons_zero, List.getElem?_cons_succ]; exact rfl) (by kernel_rfl) (by kernel_rfl) (by kernel_rfl) (by rfl) (fun _ _ d _ _ h => by cases d <;> exact h) (st0) (hSq).out (by kernel_rfl) ?_
      intro Kq hKq
      go_big_quiet_op
      go_big_quiet_on
      refine Go.Pin.takeQ 1 (by simp only [List.getElem?_toArray, List.getElem?_cons_zero, List.getElem?_cons_succ]; exact rfl) (by kernel_rfl) (by kernel_rfl) (by kernel_rfl) (by rfl) (fun _ _ d _ _ h => by cases d <;> exact h) (st0) (hSq).out (by kernel_rfl) ?_
      intro Kq hKq
      go_big_quiet_op
      go_big_quiet_on
      refine Go.Pin.takeQ 2 (by simp only [List.getElem?_toArray, List.getElem?_cons_zero, List.getElem?_cons_succ]; exact rfl) (by kernel_rfl) (by kernel_rfl) (by kernel_rfl) (by rfl) (fun _ _ d _ _ h => by cases d <;> exact h) (st0) (hSq).out (by kernel_rfl) ?_
      intro Kq hKq
      go_big_quiet_op
      go_big_quiet_on
      refine takeV 3 (.pointer (some ⟨m, 0, none⟩)) (by simp only [List.getElem?_toArray, List.getElem?_cons_zero, List.getElem?_cons_succ]; exact rfl) (by kernel_rfl) (by kernel_rfl) (by kernel_rfl) (fun _ _ d _ _ h => by cases d <;> exact h) (st0) (by kernel_rfl) (fun Yq hYq => by unfold execOp; go_simp) ?_
      simp only [Act.put, List.setIfInBounds_toArray, List.set_cons_zero, List.set_cons_succ]
      refine Go.Pin.takeQ 4 (by simp only [List.getElem?_toArray, List.getElem?_cons_zero, List.getElem?_cons_succ]; exact rfl) (by kernel_rfl) (by kernel_rfl) (by kernel_rfl) (by rfl) (fun _ _ d _ _ h => by cases d <;> exact h) (st0) (hSq).out (by kernel_rfl) ?_
      intro Kq hKq
      go_big_quiet_op
      go_big_quiet_on
      refine Go.Pin.takeQ 5 (by simp only [List.getElem?_toArray, List.getElem?_cons_zero, List.getElem?_cons_succ]; exact rfl) (by kernel_rfl) (by kernel_rfl) (by kernel_rfl) (by rfl) (fun _ _ d _ _ h => by cases d <;> exact h) (st0) (hSq).out (by kernel_rfl) ?_
      intro Kq hKq
      go_big_quiet_op
      go_big_quiet_on
      refine Go.Pin.takeQ 6 (by simp only [List.getElem?_toArray, List.getElem?_cons_zero, List.getElem?_cons_succ]; exact rfl) (by kernel_rfl) (by kernel_rfl) (by kernel_rfl) (by rfl) (fun _ _ d _ _ h => by cases d <;> exact h) (st0) (hSq).out (by kernel_rfl) ?_
      intro Kq hKq
      go_big_quiet_op
      go_big_quiet_on
      refine Go.Pin.takeQ 7 (by simp only [List.getElem?_toArray, List.getElem?_cons_zero, List.getElem?_cons_succ]; exact rfl) (by kernel_rfl) (by kernel_rfl) (by kernel_rfl) (by rfl) (fun _ _ d _ _ h => by cases d <;> exact h) (st0) (hSq).out (by kernel_rfl) ?_
      intro Kq hKq
      go_big_quiet_op
      go_big_quiet_on
      refine Go.Pin.takeQ 8 (by simp only [List.getElem?_toArray, List.getElem?_cons_zero, List.getElem?_cons_succ]; exact rfl) (by kernel_rfl) (by kernel_rfl) (by kernel_rfl) (by rfl) (fun _ _ d _ _ h => by cases d <;> exact h) (st0) (hSq).out (by kernel_rfl) ?_
      intro Kq hKq
      go_big_quiet_op
      go_big_quiet_on
      have hal := (Below.refl wd.heap.size wd).alloc (Nat.le_refl _) (.cells #[.slice a0 b0.length c0, .slice au ts.length cu] 22)
      have st1 := st0.below hal
      have hm1 := HD.out.below hal
      have hsb : (wd.alloc (.cells #[.slice a0 b0.length c0, .slice au ts.length cu] 22)).heap[wd.heap.size]? = some (.cells #[.slice a0 b0.length c0, .slice au ts.length cu] 22) := heap_alloc_new _ _
      refine Go.Pin.readyQ 9 (by simp only [List.getElem?_toArray, List.getElem?_cons_zero, List.getElem?_cons_succ]; exact rfl) (by kernel_rfl) (by kernel_rfl) ?_
      intro K hK
      refine wpRun (d := some 24) (v := .slice (some ⟨wd.heap.size, 0, none⟩) 2 2) (w' := wd.alloc (.cells #[.slice a0 b0.length c0, .slice au ts.length cu] 22)) rfl (by unfold execOp; go_simp) (hK _ _ st1 ?_)
      simp only [Act.put, List.setIfInBounds_toArray, List.set_cons_zero, List.set_cons_succ]
      clear hK K
      obtain ⟨w2, hw2⟩ : ∃ w2, wd.alloc (.cells #[.slice a0 b0.length c0, .slice au ts.length cu] 22) = w2 := ⟨_, rfl⟩
      rw [hw2] at hal st1 hm1 hsb ⊢
      refine Go.Pin.readyQ 10 (by simp only [List.getElem?_toArray, List.getElem?_cons_zero, List.getElem?_cons_succ]; exact rfl) (by kernel_rfl) (by kernel_rfl) ?_
      intro K hK
      refine wpCallV (d := some 25) (f := 63) (R := fun x w5 => w5.ownsRow w2.heap.size 3 1 x (b0 ++ ts).length ((b0 ++ ts).map (Value.int .i64)) ∧ Below w2.heap.size w2 w5) rfl rfl (args := #[.slice (some ⟨wd.heap.size, 0, none⟩) 2 2]) (by simp only [List.map_toArray, List.map_cons, List.map_nil]; rfl) (fun _ => rfl) (concat2 wd.heap.size _ _ b0 ts w2 hsb (own_ints (hm1.ex.own (f := (0, .slice a0 b0.length c0, b0)) (by simp)) (by have := HN.out; omega)) (own_ints (hm1.ex.own (f := (0, .slice au ts.length cu, ts)) (by simp)) (by have := HN.out; omega)) (by have := HN.out; omega) (by have := HN.out; omega)) ?_
      rintro x w5 ⟨hx, hb5⟩
      obtain ⟨ax, cx, rfl⟩ := own_slice' hx
      refine hK _ _ (st1.below hb5) ?_
      simp only [Act.put, List.setIfInBounds_toArray, List.set_cons_zero, List.set_cons_succ]
      clear hK K
      refine Go.Pin.readyQ 11 (by simp only [List.getElem?_toArray, List.getElem?_cons_zero, List.getElem?_cons_succ]; exact rfl) (by kernel_rfl) (by kernel_rfl) ?_
      intro K hK
      refine wpRun (d := some 4) (v := .slice ax (b0 ++ ts).length cx) (w' := w5) rfl (by unfold execOp; go_simp) (hK _ _ (st1.below hb5) ?_)
      simp only [Act.put, List.setIfInBounds_toArray, List.set_cons_zero, List.set_cons_succ]
      clear hK K
      refine wpAnyH_done (by kernel_rfl) ?_ _
      have hbd5 : Below wd.heap.size wd w5 := hal.trans (hb5.mono hal.size)
      have CS := sort_own w2.heap.size (.slice ax (b0 ++ ts).length cx) (b0 ++ ts) w5 hx (by rw [List.length_append]; have := HN.out; omega)
      have hx5 : ∀ k, (Value.slice ax (b0 ++ ts).length cx).ownBlock = some k → w2.heap.size ≤ k := fun k hk => (hx.lt k hk).1
      have hs2 : wd.heap.size ≤ w2.heap.size := hal.size
      have HB5 : Hid (Below wd.heap.size wd w5 ∧ (∀ k, (Value.slice ax (b0 ++ ts).length cx).ownBlock = some k → w2.heap.size ≤ k) ∧ wd.heap.size ≤ w2.heap.size ∧ w2.heap.size ≤ w5.heap.size) := ⟨hbd5, hx5, hs2, hb5.size⟩
      clear hal hm1 hsb hw2 hx hb5 hbd5 hx5 hs2 st1 st0 hSq hRq hNq y1 y2 y3
      obtain ⟨L, hL⟩ : ∃ L, (b0 ++ ts).length = L := ⟨_, rfl⟩
      have HL : Hid ((b0 ++ ts).length = L) := hL
      rw [hL] at CS HB5 ⊢
      clear hL
      go_upto_region 6 with (go_at_call 64; refine CS.mono ?_; rintro e w6 ⟨rfl, ho6, hg6⟩; have H6 : Hid (w6.ownsRow w2.heap.size 3 1 (.slice ax L cx) L ((srt (b0 ++ ts)).map (Value.int .i64)) ∧ Below wd.heap.size wd w6) := ⟨ho6, HB5.out.1.grown hg6 HB5.out.1.size (fun k hk => Nat.le_trans HB5.out.2.2.1 (HB5.out.2.1 k hk))⟩; clear ho6 hg6 CS)
      have hm6 := HD.out.below H6.out.2.drew
      have hl6 : w6.drew.heap[nb]? = some (.cells #[.int .i64 0, .slice au ts.length cu] 58) := (H6.out.2.block nb (by have := HSD.out; omega)).trans HLD.out
      have ho6 : w6.drew.ownsRow w2.heap.size 3 1 (.slice ax L cx) L ((srt (b0 ++ ts)).map (Value.int .i64)) := H6.out.1
      have hb6 : Below wd.heap.size wd w6.drew := H6.out.2.drew
      obtain ⟨w7, hw7⟩ : ∃ w7, w6.drew = w7 := ⟨_, rfl⟩
      rw [hw7] at hm6 hl6 ho6 hb6
      refine Go.Pin.wp_region_hcls (fun Y => Y.heap[nb]? = some (.cells #[.int .i64 0, .slice au ts.length cu] 58)) 8 (by rfl) (by kernel_rfl) (by rw [hw7]; exact hl6) ?_
      intro Sq fq hNq hRq hSq
      have y2 := fun x => cell_of_row (fq x) nb 0 _ _ _ (hRq x)
      simp at y2
      rw [hw7]
      have HM7 : Hid (MB base m nm (.slice a0 b0.length c0) (.slice a1 b1.length c1) (.slice (some ⟨g, o, none⟩) (N + 1) (cp + 1)) b0 b1 ((0, .slice au ts.length cu, ts) :: r) w7) := hm6
      have HO7 : Hid (w7.ownsRow w2.heap.size 3 1 (.slice ax L cx) L ((srt (b0 ++ ts)).map (Value.int .i64)) ∧ Below wd.heap.size wd w7) := ⟨ho6, hb6⟩
      have k7 := hm6.c1
      have f7 := hm6.fz 1
      clear hm6 ho6 hb6 hw7
      refine Go.Pin.takeQ 0 (by simp only [List.getElem?_toArray, List.getElem?_cons_zero, List.getElem?_cons_succ]; exact rfl) (by kernel_rfl) (by kernel_rfl) (by kernel_rfl) (by rfl) (fun _ _ d _ _ h => by cases d <;> exact h) (hl6) (hSq).out (by kernel_rfl) ?_
      intro Kq hKq
      go_big_quiet_op
      go_big_quiet_on
      refine Go.Pin.takeQ 1 (by simp only [List.getElem?_toArray, List.getElem?_cons_zero, List.getElem?_cons_succ]; exact rfl) (by kernel_rfl) (by kernel_rfl) (by kernel_rfl) (by rfl) (fun _ _ d _ _ h => by cases d <;> exact h) (hl6) (hSq).out (by kernel_rfl) ?_
      intro Kq hKq
      go_big_quiet_op
      go_big_quiet_on
      refine Go.Pin.takeQ 2 (by simp only [List.getElem?_toArray, List.getElem?_cons_zero, List.getElem?_cons_succ]; exact rfl) (by kernel_rfl) (by kernel_rfl) (by kernel_rfl) (by rfl) (fun _ _ d _ _ h => by cases d <;> exact h) (hl6) (hSq).out (by kernel_rfl) ?_
      intro Kq hKq
      go_big_quiet_op
      go_big_quiet_on
      refine Go.Pin.takeQ 3 (by simp only [List.getElem?_toArray, List.getElem?_cons_zero, List.getElem?_cons_succ]; exact rfl) (by kernel_rfl) (by kernel_rfl) (by kernel_rfl) (by rfl) (fun _ _ d _ _ h => by cases d <;> exact h) (hl6) (hSq).out (by kernel_rfl) ?_
      intro Kq hKq
      go_big_quiet_op
      go_big_quiet_on
      refine takeV 4 (.pointer (some ⟨m, 0, none⟩)) (by simp only [List.getElem?_toArray, List.getElem?_cons_zero, List.getElem?_cons_succ]; exact rfl) (by kernel_rfl) (by kernel_rfl) (by kernel_rfl) (fun _ _ d _ _ h => by cases d <;> exact h) (hl6) (by kernel_rfl) (fun Yq hYq => by unfold execOp; go_simp) ?_
      simp only [Act.put, List.setIfInBounds_toArray, List.set_cons_zero, List.set_cons_succ]
      refine Go.Pin.takeQ 5 (by simp only [List.getElem?_toArray, List.getElem?_cons_zero, List.getElem?_cons_succ]; exact rfl) (by kernel_rfl) (by kernel_rfl) (by kernel_rfl) (by rfl) (fun _ _ d _ _ h => by cases d <;> exact h) (hl6) (hSq).out (by kernel_rfl) ?_
      intro Kq hKq
      go_big_quiet_op
      go_big_quiet_on
      refine Go.Pin.takeQ 6 (by simp only [List.getElem?_toArray, List.getElem?_cons_zero, List.getElem?_cons_succ]; exact rfl) (by kernel_rfl) (by kernel_rfl) (by kernel_rfl) (by rfl) (fun _ _ d _ _ h => by cases d <;> exact h) (hl6) (hSq).out (by kernel_rfl) ?_
      intro Kq hKq
      go_big_quiet_op
      go_big_quiet_on
      refine Go.Pin.readyQ 7 (by simp only [List.getElem?_toArray, List.getElem?_cons_zero, List.getElem?_cons_succ]; exact rfl) (by kernel_rfl) (by kernel_rfl) ?_
      intro K hK
      have hmnb : m ≠ nb := by have := HSD.out; omega
      have hl8 : (w7.setCell ⟨m, 1, none⟩ (.slice ax L cx)).heap[nb]? = some (.cells #[.int .i64 0, .slice au ts.length cu] 58) := (heap_setCell_other _ _ _ _ (by show nb ≠ m; exact fun e => hmnb e.symm)).trans hl6
      refine wpSkp (d := none) (w' := w7.setCell ⟨m, 1, none⟩ (.slice ax L cx)) rfl (by unfold execOp; go_simp) (hK _ _ hl8 ?_)
      simp only [Act.put, List.setIfInBounds_toArray, List.set_cons_zero, List.set_cons_succ]
      clear hK K
      refine wpAnyH_done (by kernel_rfl) ?_ _
      have hlsrt : (srt (b0 ++ ts)).length = L := by rw [← HL.out]; unfold srt; simp
      have hexb : EX base [m] [(0, .slice ax L cx, srt (b0 ++ ts)), (1, .slice a1 b1.length c1, b1)] ((0, .slice au ts.length cu, ts) :: r) (.slice (some ⟨g, o, none⟩) (N + 1) (cp + 1)) w7 := by
        refine HD.out.ex.hput (A := []) (B := [(1, .slice a1 b1.length c1, b1)]) (x := (0, .slice ax L cx, srt (b0 ++ ts))) (y := (0, .slice a0 b0.length c0, b0)) (fun k hk => by simp at hk; rw [hk]; exact HD.out.lt) HO7.out.2 ?_ (fun k hk => Nat.le_trans HB5.out.2.2.1 (HB5.out.2.1 k hk))
        simp only
        rw [hlsrt]
        exact own_mn HO7.out.1 (Nat.le_trans (Nat.le_trans HD.out.hb (Nat.le_of_lt HD.out.lt)) HB5.out.2.2.1)
      have hrow8 : (w7.setCell ⟨m, 1, none⟩ (.slice ax L cx)).heap[m]? = some (.cells #[.string nm, .slice ax L cx, .slice a1 b1.length c1, .slice (some ⟨g, o, none⟩) (N + 1) (cp + 1)] 26) := by rw [Go.heap_setCell_same _ _ _ _ _ _ HM7.out.row]; rfl
      have hex8 : EX base [m] [(0, .slice ax L cx, srt (b0 ++ ts)), (1, .slice a1 b1.length c1, b1)] ((0, .slice au ts.length cu, ts) :: r) (.slice (some ⟨g, o, none⟩) (N + 1) (cp + 1)) (w7.setCell ⟨m, 1, none⟩ (.slice ax L cx)) := hexb.keep (fun b _ _ hb => heap_setCell_other _ _ _ _ (by show b ≠ m; exact fun e => hb (by rw [e]; simp)))
      have hbel8 : Below base w (w7.setCell ⟨m, 1, none⟩ (.slice ax L cx)) := (HSD.out.2.1.trans (HO7.out.2.mono (Nat.le_trans HD.out.hb (Nat.le_of_lt HD.out.lt)))).setCell (p := ⟨m, 1, none⟩) HD.out.hb _
      obtain ⟨w8, hw8⟩ : ∃ w8, w7.setCell ⟨m, 1, none⟩ (.slice ax L cx) = w8 := ⟨_, rfl⟩
      rw [hw8] at hrow8 hex8 hbel8 ⊢
      have H8 : Hid (w8.heap[m]? = some (.cells #[.string nm, .slice ax L cx, .slice a1 b1.length c1, .slice (some ⟨g, o, none⟩) (N + 1) (cp + 1)] 26) ∧ EX base [m] [(0, .slice ax L cx, srt (b0 ++ ts)), (1, .slice a1 b1.length c1, b1)] ((0, .slice au ts.length cu, ts) :: r) (.slice (some ⟨g, o, none⟩) (N + 1) (cp + 1)) w8 ∧ Below base w w8) := ⟨hrow8, hex8, hbel8⟩
      have k8 : w8.cell? ⟨m, 3, none⟩ = some (.slice (some ⟨g, o, none⟩) (N + 1) (cp + 1)) := by rw [cell_of_row _ _ _ _ _ _ hrow8]; rfl
      have f8 : w8.frozen? ⟨m, 3, none⟩ = false := frozen_of_row _ _ _ _ _ hrow8
      have q1 : N ≤ cp := HN.out.2.2.1
      clear hrow8 hex8 hbel8 hw8 hl8 k7 f7 hSq hRq hNq y2 hexb hl6
      go_wp2
      · have hcp : cp = 0 := by omega
        subst hcp
        go_ret
        exact ⟨H8.out.2.2.setCell (p := ⟨m, 3, none⟩) HD.out.hb _, rfl, _, _, MB.tail HN.out.1 H8.out.1 H8.out.2.1 HD.out.hb (.inl (by omega))⟩
      · go_ret
        exact ⟨H8.out.2.2.setCell (p := ⟨m, 3, none⟩) HD.out.hb _, rfl, _, _, MB.tail HN.out.1 H8.out.1 H8.out.2.1 HD.out.hb (.inr rfl)⟩
    · have hdr := HM1.out.below (Below.refl w'.heap.size w').drew
      have hlnd : w'.drew.heap[nb]? = some (.cells #[.int .i64 1, .slice au ts.length cu] 58) := HS1.out.2.2.1
      have hbd : Below base w w'.drew := HS1.out.2.1.drew
      have hsd : w'.drew.heap.size = nb + 1 := HS1.out.1
      obtain ⟨wd, hwd⟩ : ∃ wd, w'.drew = wd := ⟨_, rfl⟩
      rw [hwd] at hdr hlnd hbd hsd
      have st0 : F3 base m nb nm (.slice a0 b0.length c0) (.slice a1 b1.length c1) (.slice (some ⟨g, o, none⟩) (N + 1) (cp + 1)) 1 (.slice au ts.length cu) wd := ⟨hdr.row, hlnd⟩
      have HD : Hid (MB base m nm (.slice a0 b0.length c0) (.slice a1 b1.length c1) (.slice (some ⟨g, o, none⟩) (N + 1) (cp + 1)) b0 b1 ((1, .slice au ts.length cu, ts) :: r) wd) := hdr
      have HLD : Hid (wd.heap[nb]? = some (.cells #[.int .i64 1, .slice au ts.length cu] 58)) := hlnd
      have HSD : Hid (wd.heap.size = nb + 1 ∧ Below base w wd ∧ m < nb) := ⟨hsd, hbd, HS1.out.2.2.2⟩
      refine Go.Pin.wp_region_hcls (fun Y => F3 base m nb nm (.slice a0 b0.length c0) (.slice a1 b1.length c1) (.slice (some ⟨g, o, none⟩) (N + 1) (cp + 1)) 1 (.slice au ts.length cu) Y) 12 (by rfl) (by kernel_rfl) (by rw [hwd]; exact st0) ?_
      intro Sq fq hNq hRq hSq
      have y1 := fun x => (hRq x).c2
      have y2 := fun x => (hRq x).l0
      have y3 := fun x => (hRq x).l1
      rw [hwd]
      clear hdr hlnd hbd hsd hwd k3 x0 x1 hl1 CI
      refine Go.Pin.takeQ 0 (by simp only [List.getElem?_toArray, List.getElem?_cons_zero, List.getElem?_cons_succ]; exact rfl) (by kernel_rfl) (by kernel_rfl) (by kernel_rfl) (by rfl) (fun _ _ d _ _ h => by cases d <;> exact h) (st0) (hSq).out (by kernel_rfl) ?_
      intro Kq hKq
      go_big_quiet_op
      go_big_quiet_on
      refine Go.Pin.takeQ 1 (by simp only [List.getElem?_toArray, List.getElem?_cons_zero, List.getElem?_cons_succ]; exact rfl) (by kernel_rfl) (by kernel_rfl) (by kernel_rfl) (by rfl) (fun _ _ d _ _ h => by cases d <;> exact h) (st0) (hSq).out (by kernel_rfl) ?_
      intro Kq hKq
      go_big_quiet_op
      go_big_quiet_on
      refine Go.Pin.takeQ 2 (by simp only [List.getElem?_toArray, List.getElem?_cons_zero, List.getElem?_cons_succ]; exact rfl) (by kernel_rfl) (by kernel_rfl) (by kernel_rfl) (by rfl) (fun _ _ d _ _ h => by cases d <;> exact h) (st0) (hSq).out (by kernel_rfl) ?_
      intro Kq hKq
      go_big_quiet_op
      go_big_quiet_on
      refine takeV 3 (.pointer (some ⟨m, 0, none⟩)) (by simp only [List.getElem?_toArray, List.getElem?_cons_zero, List.getElem?_cons_succ]; exact rfl) (by kernel_rfl) (by kernel_rfl) (by kernel_rfl) (fun _ _ d _ _ h => by cases d <;> exact h) (st0) (by kernel_rfl) (fun Yq hYq => by unfold execOp; go_simp) ?_
      simp only [Act.put, List.setIfInBounds_toArray, List.set_cons_zero, List.set_cons_succ]
      refine Go.Pin.takeQ 4 (by simp only [List.getElem?_toArray, List.getElem?_cons_zero, List.getElem?_cons_succ]; exact rfl) (by kernel_rfl) (by kernel_rfl) (by kernel_rfl) (by rfl) (fun _ _ d _ _ h => by cases d <;> exact h) (st0) (hSq).out (by kernel_rfl) ?_
      intro Kq hKq
      go_big_quiet_op
      go_big_quiet_on
      refine Go.Pin.takeQ 5 (by simp only [List.getElem?_toArray, List.getElem?_cons_zero, List.getElem?_cons_succ]; exact rfl) (by kernel_rfl) (by kernel_rfl) (by kernel_rfl) (by rfl) (fun _ _ d _ _ h => by cases d <;> exact h) (st0) (hSq).out (by kernel_rfl) ?_
      intro Kq hKq
      go_big_quiet_op
      go_big_quiet_on
      refine Go.Pin.takeQ 6 (by simp only [List.getElem?_toArray, List.getElem?_cons_zero, List.getElem?_cons_succ]; exact rfl) (by kernel_rfl) (by kernel_rfl) (by kernel_rfl) (by rfl) (fun _ _ d _ _ h => by cases d <;> exact h) (st0) (hSq).out (by kernel_rfl) ?_
      intro Kq hKq
      go_big_quiet_op
      go_big_quiet_on
      refine Go.Pin.takeQ 7 (by simp only [List.getElem?_toArray, List.getElem?_cons_zero, List.getElem?_cons_succ]; exact rfl) (by kernel_rfl) (by kernel_rfl) (by kernel_rfl) (by rfl) (fun _ _ d _ _ h => by cases d <;> exact h) (st0) (hSq).out (by kernel_rfl) ?_
      intro Kq hKq
      go_big_quiet_op
      go_big_quiet_on
      refine Go.Pin.takeQ 8 (by simp only [List.getElem?_toArray, List.getElem?_cons_zero, List.getElem?_cons_succ]; exact rfl) (by kernel_rfl) (by kernel_rfl) (by kernel_rfl) (by rfl) (fun _ _ d _ _ h => by cases d <;> exact h) (st0) (hSq).out (by kernel_rfl) ?_
      intro Kq hKq
      go_big_quiet_op
      go_big_quiet_on
      have hal := (Below.refl wd.heap.size wd).alloc (Nat.le_refl _) (.cells #[.slice a1 b1.length c1, .slice au ts.length cu] 22)
      have st1 := st0.below hal
      have hm1 := HD.out.below hal
      have hsb : (wd.alloc (.cells #[.slice a1 b1.length c1, .slice au ts.length cu] 22)).heap[wd.heap.size]? = some (.cells #[.slice a1 b1.length c1, .slice au ts.length cu] 22) := heap_alloc_new _ _
      refine Go.Pin.readyQ 9 (by simp only [List.getElem?_toArray, List.getElem?_cons_zero, List.getElem?_cons_succ]; exact rfl) (by kernel_rfl) (by kernel_rfl) ?_
      intro K hK
      refine wpRun (d := some 24) (v := .slice (some ⟨wd.heap.size, 0, none⟩) 2 2) (w' := wd.alloc (.cells #[.slice a1 b1.length c1, .slice au ts.length cu] 22)) rfl (by unfold execOp; go_simp) (hK _ _ st1 ?_)
      simp only [Act.put, List.setIfInBounds_toArray, List.set_cons_zero, List.set_cons_succ]
      clear hK K
      obtain ⟨w2, hw2⟩ : ∃ w2, wd.alloc (.cells #[.slice a1 b1.length c1, .slice au ts.length cu] 22) = w2 := ⟨_, rfl⟩
      rw [hw2] at hal st1 hm1 hsb ⊢
      refine Go.Pin.readyQ 10 (by simp only [List.getElem?_toArray, List.getElem?_cons_zero, List.getElem?_cons_succ]; exact rfl) (by kernel_rfl) (by kernel_rfl) ?_
      intro K hK
      refine wpCallV (d := some 25) (f := 63) (R := fun x w5 => w5.ownsRow w2.heap.size 3 1 x (b1 ++ ts).length ((b1 ++ ts).map (Value.int .i64)) ∧ Below w2.heap.size w2 w5) rfl rfl (args := #[.slice (some ⟨wd.heap.size, 0, none⟩) 2 2]) (by simp only [List.map_toArray, List.map_cons, List.map_nil]; rfl) (fun _ => rfl) (concat2 wd.heap.size _ _ b1 ts w2 hsb (own_ints (hm1.ex.own (f := (1, .slice a1 b1.length c1, b1)) (by simp)) (by have := HN.out; omega)) (own_ints (hm1.ex.own (f := (1, .slice au ts.length cu, ts)) (by simp)) (by have := HN.out; omega)) (by have := HN.out; omega) (by have := HN.out; omega)) ?_
      rintro x w5 ⟨hx, hb5⟩
      obtain ⟨ax, cx, rfl⟩ := own_slice' hx
      refine hK _ _ (st1.below hb5) ?_
      simp only [Act.put, List.setIfInBounds_toArray, List.set_cons_zero, List.set_cons_succ]
      clear hK K
      refine Go.Pin.readyQ 11 (by simp only [List.getElem?_toArray, List.getElem?_cons_zero, List.getElem?_cons_succ]; exact rfl) (by kernel_rfl) (by kernel_rfl) ?_
      intro K hK
      refine wpRun (d := some 4) (v := .slice ax (b1 ++ ts).length cx) (w' := w5) rfl (by unfold execOp; go_simp) (hK _ _ (st1.below hb5) ?_)
      simp only [Act.put, List.setIfInBounds_toArray, List.set_cons_zero, List.set_cons_succ]
      clear hK K
      refine wpAnyH_done (by kernel_rfl) ?_ _
      have hbd5 : Below wd.heap.size wd w5 := hal.trans (hb5.mono hal.size)
      have CS := sort_own w2.heap.size (.slice ax (b1 ++ ts).length cx) (b1 ++ ts) w5 hx (by rw [List.length_append]; have := HN.out; omega)
      have hx5 : ∀ k, (Value.slice ax (b1 ++ ts).length cx).ownBlock = some k → w2.heap.size ≤ k := fun k hk => (hx.lt k hk).1
      have hs2 : wd.heap.size ≤ w2.heap.size := hal.size
      have HB5 : Hid (Below wd.heap.size wd w5 ∧ (∀ k, (Value.slice ax (b1 ++ ts).length cx).ownBlock = some k → w2.heap.size ≤ k) ∧ wd.heap.size ≤ w2.heap.size ∧ w2.heap.size ≤ w5.heap.size) := ⟨hbd5, hx5, hs2, hb5.size⟩
      clear hal hm1 hsb hw2 hx hb5 hbd5 hx5 hs2 st1 st0 hSq hRq hNq y1 y2 y3
      obtain ⟨L, hL⟩ : ∃ L, (b1 ++ ts).length = L := ⟨_, rfl⟩
      have HL : Hid ((b1 ++ ts).length = L) := hL
      rw [hL] at CS HB5 ⊢
      clear hL
      go_upto_region 6 with (go_at_call 64; refine CS.mono ?_; rintro e w6 ⟨rfl, ho6, hg6⟩; have H6 : Hid (w6.ownsRow w2.heap.size 3 1 (.slice ax L cx) L ((srt (b1 ++ ts)).map (Value.int .i64)) ∧ Below wd.heap.size wd w6) := ⟨ho6, HB5.out.1.grown hg6 HB5.out.1.size (fun k hk => Nat.le_trans HB5.out.2.2.1 (HB5.out.2.1 k hk))⟩; clear ho6 hg6 CS)
      have hm6 := HD.out.below H6.out.2.drew
      have hl6 : w6.drew.heap[nb]? = some (.cells #[.int .i64 1, .slice au ts.length cu] 58) := (H6.out.2.block nb (by have := HSD.out; omega)).trans HLD.out
      have ho6 : w6.drew.ownsRow w2.heap.size 3 1 (.slice ax L cx) L ((srt (b1 ++ ts)).map (Value.int .i64)) := H6.out.1
      have hb6 : Below wd.heap.size wd w6.drew := H6.out.2.drew
      obtain ⟨w7, hw7⟩ : ∃ w7, w6.drew = w7 := ⟨_, rfl⟩
      rw [hw7] at hm6 hl6 ho6 hb6
      refine Go.Pin.wp_region_hcls (fun Y => Y.heap[nb]? = some (.cells #[.int .i64 1, .slice au ts.length cu] 58)) 8 (by rfl) (by kernel_rfl) (by rw [hw7]; exact hl6) ?_
      intro Sq fq hNq hRq hSq
      have y2 := fun x => cell_of_row (fq x) nb 0 _ _ _ (hRq x)
      simp at y2
      rw [hw7]
      have HM7 : Hid (MB base m nm (.slice a0 b0.length c0) (.slice a1 b1.length c1) (.slice (some ⟨g, o, none⟩) (N + 1) (cp + 1)) b0 b1 ((1, .slice au ts.length cu, ts) :: r) w7) := hm6
      have HO7 : Hid (w7.ownsRow w2.heap.size 3 1 (.slice ax L cx) L ((srt (b1 ++ ts)).map (Value.int .i64)) ∧ Below wd.heap.size wd w7) := ⟨ho6, hb6⟩
      have k7 := hm6.c2
      have f7 := hm6.fz 2
      clear hm6 ho6 hb6 hw7
      refine Go.Pin.takeQ 0 (by simp only [List.getElem?_toArray, List.getElem?_cons_zero, List.getElem?_cons_succ]; exact rfl) (by kernel_rfl) (by kernel_rfl) (by kernel_rfl) (by rfl) (fun _ _ d _ _ h => by cases d <;> exact h) (hl6) (hSq).out (by kernel_rfl) ?_
      intro Kq hKq
      go_big_quiet_op
      go_big_quiet_on
      refine Go.Pin.takeQ 1 (by simp only [List.getElem?_toArray, List.getElem?_cons_zero, List.getElem?_cons_succ]; exact rfl) (by kernel_rfl) (by kernel_rfl) (by kernel_rfl) (by rfl) (fun _ _ d _ _ h => by cases d <;> exact h) (hl6) (hSq).out (by kernel_rfl) ?_
      intro Kq hKq
      go_big_quiet_op
      go_big_quiet_on
      refine Go.Pin.takeQ 2 (by simp only [List.getElem?_toArray, List.getElem?_cons_zero, List.getElem?_cons_succ]; exact rfl) (by kernel_rfl) (by kernel_rfl) (by kernel_rfl) (by rfl) (fun _ _ d _ _ h => by cases d <;> exact h) (hl6) (hSq).out (by kernel_rfl) ?_
      intro Kq hKq
      go_big_quiet_op
      go_big_quiet_on
      refine Go.Pin.takeQ 3 (by simp only [List.getElem?_toArray, List.getElem?_cons_zero, List.getElem?_cons_succ]; exact rfl) (by kernel_rfl) (by kernel_rfl) (by kernel_rfl) (by rfl) (fun _ _ d _ _ h => by cases d <;> exact h) (hl6) (hSq).out (by kernel_rfl) ?_
      intro Kq hKq
      go_big_quiet_op
      go_big_quiet_on
      refine takeV 4 (.pointer (some ⟨m, 0, none⟩)) (by simp only [List.getElem?_toArray, List.getElem?_cons_zero, List.getElem?_cons_succ]; exact rfl) (by kernel_rfl) (by kernel_rfl) (by kernel_rfl) (fun _ _ d _ _ h => by cases d <;> exact h) (hl6) (by kernel_rfl) (fun Yq hYq => by unfold execOp; go_simp) ?_
      simp only [Act.put, List.setIfInBounds_toArray, List.set_cons_zero, List.set_cons_succ]
      refine Go.Pin.takeQ 5 (by simp only [List.getElem?_toArray, List.getElem?_cons_zero, List.getElem?_cons_succ]; exact rfl) (by kernel_rfl) (by kernel_rfl) (by kernel_rfl) (by rfl) (fun _ _ d _ _ h => by cases d <;> exact h) (hl6) (hSq).out (by kernel_rfl) ?_
      intro Kq hKq
      go_big_quiet_op
      go_big_quiet_on
      refine Go.Pin.takeQ 6 (by simp only [List.getElem?_toArray, List.getElem?_cons_zero, List.getElem?_cons_succ]; exact rfl) (by kernel_rfl) (by kernel_rfl) (by kernel_rfl) (by rfl) (fun _ _ d _ _ h => by cases d <;> exact h) (hl6) (hSq).out (by kernel_rfl) ?_
      intro Kq hKq
      go_big_quiet_op
      go_big_quiet_on
      refine Go.Pin.readyQ 7 (by simp only [List.getElem?_toArray, List.getElem?_cons_zero, List.getElem?_cons_succ]; exact rfl) (by kernel_rfl) (by kernel_rfl) ?_
      intro K hK
      have hmnb : m ≠ nb := by have := HSD.out; omega
      have hl8 : (w7.setCell ⟨m, 2, none⟩ (.slice ax L cx)).heap[nb]? = some (.cells #[.int .i64 1, .slice au ts.length cu] 58) := (heap_setCell_other _ _ _ _ (by show nb ≠ m; exact fun e => hmnb e.symm)).trans hl6
      refine wpSkp (d := none) (w' := w7.setCell ⟨m, 2, none⟩ (.slice ax L cx)) rfl (by unfold execOp; go_simp) (hK _ _ hl8 ?_)
      simp only [Act.put, List.setIfInBounds_toArray, List.set_cons_zero, List.set_cons_succ]
      clear hK K
      refine wpAnyH_done (by kernel_rfl) ?_ _
      have hlsrt : (srt (b1 ++ ts)).length = L := by rw [← HL.out]; unfold srt; simp
      have hexb : EX base [m] [(0, .slice a0 b0.length c0, b0), (1, .slice ax L cx, srt (b1 ++ ts))] ((1, .slice au ts.length cu, ts) :: r) (.slice (some ⟨g, o, none⟩) (N + 1) (cp + 1)) w7 := by
        refine HD.out.ex.hput (A := [(0, .slice a0 b0.length c0, b0)]) (B := []) (x := (1, .slice ax L cx, srt (b1 ++ ts))) (y := (1, .slice a1 b1.length c1, b1)) (fun k hk => by simp at hk; rw [hk]; exact HD.out.lt) HO7.out.2 ?_ (fun k hk => Nat.le_trans HB5.out.2.2.1 (HB5.out.2.1 k hk))
        simp only
        rw [hlsrt]
        exact own_mn HO7.out.1 (Nat.le_trans (Nat.le_trans HD.out.hb (Nat.le_of_lt HD.out.lt)) HB5.out.2.2.1)
      have hrow8 : (w7.setCell ⟨m, 2, none⟩ (.slice ax L cx)).heap[m]? = some (.cells #[.string nm, .slice a0 b0.length c0, .slice ax L cx, .slice (some ⟨g, o, none⟩) (N + 1) (cp + 1)] 26) := by rw [Go.heap_setCell_same _ _ _ _ _ _ HM7.out.row]; rfl
      have hex8 : EX base [m] [(0, .slice a0 b0.length c0, b0), (1, .slice ax L cx, srt (b1 ++ ts))] ((1, .slice au ts.length cu, ts) :: r) (.slice (some ⟨g, o, none⟩) (N + 1) (cp + 1)) (w7.setCell ⟨m, 2, none⟩ (.slice ax L cx)) := hexb.keep (fun b _ _ hb => heap_setCell_other _ _ _ _ (by show b ≠ m; exact fun e => hb (by rw [e]; simp)))
      have hbel8 : Below base w (w7.setCell ⟨m, 2, none⟩ (.slice ax L cx)) := (HSD.out.2.1.trans (HO7.out.2.mono (Nat.le_trans HD.out.hb (Nat.le_of_lt HD.out.lt)))).setCell (p := ⟨m, 2, none⟩) HD.out.hb _
      obtain ⟨w8, hw8⟩ : ∃ w8, w7.setCell ⟨m, 2, none⟩ (.slice ax L cx) = w8 := ⟨_, rfl⟩
      rw [hw8] at hrow8 hex8 hbel8 ⊢
      have H8 : Hid (w8.heap[m]? = some (.cells #[.string nm, .slice a0 b0.length c0, .slice ax L cx, .slice (some ⟨g, o, none⟩) (N + 1) (cp + 1)] 26) ∧ EX base [m] [(0, .slice a0 b0.length c0, b0), (1, .slice ax L cx, srt (b1 ++ ts))] ((1, .slice au ts.length cu, ts) :: r) (.slice (some ⟨g, o, none⟩) (N + 1) (cp + 1)) w8 ∧ Below base w w8) := ⟨hrow8, hex8, hbel8⟩
      have k8 : w8.cell? ⟨m, 3, none⟩ = some (.slice (some ⟨g, o, none⟩) (N + 1) (cp + 1)) := by rw [cell_of_row _ _ _ _ _ _ hrow8]; rfl
      have f8 : w8.frozen? ⟨m, 3, none⟩ = false := frozen_of_row _ _ _ _ _ hrow8
      have q1 : N ≤ cp := HN.out.2.2.1
      clear hrow8 hex8 hbel8 hw8 hl8 k7 f7 hSq hRq hNq y2 hexb hl6
      go_wp2
      · have hcp : cp = 0 := by omega
        subst hcp
        go_ret
        exact ⟨H8.out.2.2.setCell (p := ⟨m, 3, none⟩) HD.out.hb _, rfl, _, _, MB.tail HN.out.1 H8.out.1 H8.out.2.1 HD.out.hb (.inl (by omega))⟩
      · go_ret
        exact ⟨H8.out.2.2.setCell (p := ⟨m, 3, none⟩) HD.out.hb _, rfl, _, _, MB.tail HN.out.1 H8.out.1 H8.out.2.1 HD.out.hb (.inr rfl)⟩
end Go.Proofs.YtmlcgcmoioekpabGreatDoor
