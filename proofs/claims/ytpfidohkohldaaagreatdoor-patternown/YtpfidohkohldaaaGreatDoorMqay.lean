import Derived.Lib.Join
import Derived.Test.YtpfidohkohldaaaGreatDoorMqax
import Derived.Test.YtpfidohkohldaaaGreatDoorMqaj
import Derived.Test.YtpfidohkohldaaaGreatDoorMqae
import Derived.Test.YtpfidohkohldaaaGreatDoorMqaf
namespace Go.Proofs.YtpfidohkohldaaaGreatDoor
set_option linter.unusedSimpArgs false
set_option linter.unusedVariables false
set_option maxRecDepth 100000
open Go.ChangeShapes Go.WideShapes Go.ChangeAt Go.RowKit Go.Pin Go.Pat Go.Deep
/-- what fallback makes known -/
def srt (A : List Int) : List Int := A.mergeSort fun x y => decide (x ≤ y)
/-- what fallBack answers -/
def FbP (base m : Nat) (nm : ByteArray) (v0 v1 : Value) (b0 b1 : List Int) (f : Int) (ts : List Int) (r : List Lv) (w : World) (e : Ending) (w' : World) : Prop :=
  Below base w w' ∧ e = .returned (.bool (ahd ts)) ∧ (ahd ts = true → ∃ x vl, (f = 0 ∧ MB base m nm x v1 vl (srt (b0 ++ ts)) b1 r w') ∨ (f = 1 ∧ MB base m nm v0 x vl b0 (srt (b1 ++ ts)) r w'))
/-- the box of the first line beside it -/
structure F3 (base m nb : Nat) (nm : ByteArray) (v0 v1 vl : Value) (f : Int) (u : Value) (w : World) : Prop where
  row : w.heap[m]? = some (.cells #[.string nm, v0, v1, vl] 26)
  ln : w.heap[nb]? = some (.cells #[.int .i64 f, u] 43)
section
variable {base m nb : Nat} {nm : ByteArray} {v0 v1 vl u : Value} {f : Int} {w w' : World}
theorem F3.c1 (h : F3 base m nb nm v0 v1 vl f u w) : w.cell? ⟨m, 1, none⟩ = some v0 := by rw [cell_of_row _ _ _ _ _ _ h.row]; rfl
theorem F3.c2 (h : F3 base m nb nm v0 v1 vl f u w) : w.cell? ⟨m, 2, none⟩ = some v1 := by rw [cell_of_row _ _ _ _ _ _ h.row]; rfl
theorem F3.c3 (h : F3 base m nb nm v0 v1 vl f u w) : w.cell? ⟨m, 3, none⟩ = some vl := by rw [cell_of_row _ _ _ _ _ _ h.row]; rfl
theorem F3.l0 (h : F3 base m nb nm v0 v1 vl f u w) : w.cell? ⟨nb, 0, none⟩ = some (.int .i64 f) := by rw [cell_of_row _ _ _ _ _ _ h.ln]; rfl
theorem F3.l1 (h : F3 base m nb nm v0 v1 vl f u w) : w.cell? ⟨nb, 1, none⟩ = some u := by rw [cell_of_row _ _ _ _ _ _ h.ln]; rfl
theorem F3.below (h : F3 base m nb nm v0 v1 vl f u w) (hb : Below w.heap.size w w') : F3 base m nb nm v0 v1 vl f u w' :=
  ⟨(hb.block m (Array.getElem?_eq_some_iff.1 h.row).1).trans h.row, (hb.block nb (Array.getElem?_eq_some_iff.1 h.ln).1).trans h.ln⟩
end
theorem MB.tail {base m : Nat} {nm : ByteArray} {v0 v1 : Value} {b0 b1 : List Int} {f : Lv} {r : List Lv} {g o N cp : Nat} {w : World} (hr : r.length = N) (hrow : w.heap[m]? = some (.cells #[.string nm, v0, v1, .slice (some ⟨g, o, none⟩) (N + 1) (cp + 1)] 26)) (hex : EX base [m] [(0, v0, b0), (1, v1, b1)] (f :: r) (.slice (some ⟨g, o, none⟩) (N + 1) (cp + 1)) w) (hb : base ≤ m) {a : Option Addr} (ha : N = 0 ∨ a = some ⟨g, o + 2, none⟩) :
    MB base m nm v0 v1 (.slice a N cp) b0 b1 r (w.setCell ⟨m, 3, none⟩ (.slice a N cp)) := by
  subst hr
  refine ⟨by rw [Go.heap_setCell_same _ _ _ _ _ _ hrow]; rfl, ?_, hb⟩
  exact (hex.tail ha).keep (fun b _ _ hbz => heap_setCell_other _ _ _ _ (by show b ≠ m; exact fun e => hbz (by rw [e]; simp)))
set_option maxHeartbeats 8000000 in
theorem fallBack_any (base m : Nat) (nm : ByteArray) (v0 v1 vl : Value) (b0 b1 : List Int) (f : Int) (u : Value) (ts : List Int) (r : List Lv) (w : World) (h : MB base m nm v0 v1 vl b0 b1 ((f, u, ts) :: r) w) (hf : f = 0 ∨ f = 1) (hn : r.length ≤ 1000) (h0 : b0.length ≤ 400) (h1 : b1.length ≤ 400) (ht : ts.length ≤ 400) :
    Calls Tryz.prog 28 #[.pointer (some ⟨m, 0, none⟩)] w (FbP base m nm v0 v1 b0 b1 f ts r w) := by
  have o0 := h.ex.own (f := (0, v0, b0)) (by simp)
  have o1 := h.ex.own (f := (1, v1, b1)) (by simp)
  have ou := h.ex.own (f := (f, u, ts)) (by simp)
  simp only at o0 o1 ou
  obtain ⟨a0, c0, rfl⟩ := own_slice' o0
  obtain ⟨a1, c1, rfl⟩ := own_slice' o1
  obtain ⟨au, cu, rfl⟩ := own_slice' ou
  obtain ⟨g, o, cap, rfl, hc, hgb, hgs, hgz, x0, x1, -, -, -⟩ := h.ex.at (j := 0) (by simp)
  simp only [List.getD_cons_zero, Nat.zero_mul, Nat.add_zero, List.length_cons] at x0 x1 hc h
  obtain ⟨cp, rfl⟩ : ∃ cp, cap = cp + 1 := ⟨cap - 1, by omega⟩
  obtain ⟨N, hN⟩ : ∃ N, r.length = N := ⟨_, rfl⟩
  rw [hN] at h hc hn
  have k3 := h.c3
  have H : Hid (MB base m nm (.slice a0 b0.length c0) (.slice a1 b1.length c1) (.slice (some ⟨g, o, none⟩) (N + 1) (cp + 1)) b0 b1 ((f, .slice au ts.length cu, ts) :: r) w) := h
  have HN : Hid (r.length = N ∧ N ≤ 1000 ∧ N ≤ cp ∧ b0.length ≤ 400 ∧ b1.length ≤ 400 ∧ ts.length ≤ 400) := ⟨hN, by omega, by omega, h0, h1, ht⟩
  have hal := (Below.refl w.heap.size w).alloc (Nat.le_refl _) (.cells #[.int .i64 f, .slice au ts.length cu] 43)
  have hm1 := h.below hal
  have hln : (w.alloc (.cells #[.int .i64 f, .slice au ts.length cu] 43)).heap[w.heap.size]? = some (.cells #[.int .i64 f, .slice au ts.length cu] 43) := heap_alloc_new _ _
  have hsz : (w.alloc (.cells #[.int .i64 f, .slice au ts.length cu] 43)).heap.size = w.heap.size + 1 := size_alloc _ _
  have hbw : Below base w (w.alloc (.cells #[.int .i64 f, .slice au ts.length cu] 43)) := (Below.refl _ _).alloc (Nat.le_trans h.hb (Nat.le_of_lt h.lt)) _
  obtain ⟨nb, hnb⟩ : ∃ nb, w.heap.size = nb := ⟨_, rfl⟩
  obtain ⟨W1, hW1⟩ : ∃ W1, w.alloc (.cells #[.int .i64 f, .slice au ts.length cu] 43) = W1 := ⟨_, rfl⟩
  rw [hW1] at hm1 hln hsz hbw
  rw [hnb] at hln hsz
  have HM1 : Hid (MB base m nm (.slice a0 b0.length c0) (.slice a1 b1.length c1) (.slice (some ⟨g, o, none⟩) (N + 1) (cp + 1)) b0 b1 ((f, .slice au ts.length cu, ts) :: r) W1) := hm1
  have HS1 : Hid (W1.heap.size = nb + 1 ∧ Below base w W1 ∧ W1.heap[nb]? = some (.cells #[.int .i64 f, .slice au ts.length cu] 43) ∧ m < nb) := ⟨hsz, hbw, hln, by rw [← hnb]; exact h.lt⟩
  have hl1 : W1.cell? ⟨nb, 1, none⟩ = some (.slice au ts.length cu) := by rw [cell_of_row _ _ _ _ _ _ hln]; rfl
  have CI := inOrder_any (.slice au ts.length cu) ts W1 (own_ints (hm1.ex.own (f := (f, .slice au ts.length cu, ts)) (by simp)) (by omega))
  have hmp : (0 : Int) < ((N + 1 : Nat) : Int) := by omega
  clear h o0 o1 ou hN hc hn h0 h1 ht hal hm1 hln hsz hbw hgs
  unfold FbP
  cases ha : ahd ts with
  | false =>
    rw [ha] at CI
    clear ha
    go_enter Tryz.func28, Tryz.ntmps28
    go_wp2_with (go_at_call 52; refine CI.mono ?_; rintro e w' ⟨rfl, rfl⟩)
    go_ret
    exact ⟨HS1.out.2.1, rfl, fun h => by cases h⟩
  | true =>
    rw [ha] at CI
    clear ha
    go_enter Tryz.func28, Tryz.ntmps28
    go_upto_region 4 with (go_at_call 52; refine CI.mono ?_; rintro e w' ⟨rfl, rfl⟩)
    rcases hf with rfl | rfl
    · have hdr := HM1.out.below (Below.refl w'.heap.size w').drew
      have hlnd : w'.drew.heap[nb]? = some (.cells #[.int .i64 0, .slice au ts.length cu] 43) := HS1.out.2.2.1
      have hbd : Below base w w'.drew := HS1.out.2.1.drew
      have hsd : w'.drew.heap.size = nb + 1 := HS1.out.1
      obtain ⟨wd, hwd⟩ : ∃ wd, w'.drew = wd := ⟨_, rfl⟩
      rw [hwd] at hdr hlnd hbd hsd
      have st0 : F3 base m nb nm (.slice a0 b0.length c0) (.slice a1 b1.length c1) (.slice (some ⟨g, o, none⟩) (N + 1) (cp + 1)) 0 (.slice au ts.length cu) wd := ⟨hdr.row, hlnd⟩
      have HD : Hid (MB base m nm (.slice a0 b0.length c0) (.slice a1 b1.length c1) (.slice (some ⟨g, o, none⟩) (N + 1) (cp + 1)) b0 b1 ((0, .slice au ts.length cu, ts) :: r) wd) := hdr
      have HLD : Hid (wd.heap[nb]? = some (.cells #[.int .i64 0, .slice au ts.length cu] 43)) := hlnd
      have HSD : Hid (wd.heap.size = nb + 1 ∧ Below base w wd ∧ m < nb) := ⟨hsd, hbd, HS1.out.2.2.2⟩
      refine Go.Pin.wp_region_hcls (fun Y => F3 base m nb nm (.slice a0 b0.length c0) (.slice a1 b1.length c1) (.slice (some ⟨g, o, none⟩) (N + 1) (cp + 1)) 0 (.slice au ts.length cu) Y) 12 (by rfl) (by kernel_rfl) (by rw [hwd]; exact st0) ?_
      intro Sq fq hNq hRq hSq
      have y1 := fun x => (hRq x).c1
      have y2 := fun x => (hRq x).l0
      have y3 := fun x => (hRq x).l1
      rw [hwd]
      clear hdr hlnd hbd hsd hwd k3 x0 x1 hl1 CI
      refine Go.Pin.takeQ 0 (by simp only [List.getElem?_toArray, List.getElem?_cons_zero, List.getElem?_cons_succ]; exact rfl) (by kernel_rfl) (by kernel_rfl) (by kernel_rfl) (by rfl) (fun _ _ d _ _ h => by cases d <;> exact h) (st0) (hSq).out (by kernel_rfl) ?_
      intro Kq hKq
      go_big_quiet_op
      go_big_quiet_on
      refine Go.Pin.takeQ 1 (by simp only [List.getElem?_toArray, List.getElem?_cons_zero, List.getElem?_cons_succ]; exact rfl) (by kernel_rfl) (by kernel_rfl) (by kernel_rfl) (by rfl) (fun _ _ d _ _ h => by cases d <;> exact h) (st0) (hSq).out (by kernel_rfl) ?_
      intro Kq hKq
      go_big_quiet_op
      go_big_quiet_on
      refine Go.Pin.takeQ 2 (by simp only [List.getElem?_toArray, List.getElem?_cons_zero, List.getElem?_cons_succ]; exact rfl) (by kernel_rfl) (by kernel_rfl) (by kernel_rfl) (by rfl) (fun _ _ d _ _ h => by cases d <;> exact h) (st0) (hSq).out (by kernel_rfl) ?_
      intro Kq hKq
      go_big_quiet_op
      go_big_quiet_on
      refine takeV 3 (.pointer (some ⟨m, 0, none⟩)) (by simp only [List.getElem?_toArray, List.getElem?_cons_zero, List.getElem?_cons_succ]; exact rfl) (by kernel_rfl) (by kernel_rfl) (by kernel_rfl) (fun _ _ d _ _ h => by cases d <;> exact h) (st0) (by kernel_rfl) (fun Yq hYq => by unfold execOp; go_simp) ?_
      simp only [Act.put, List.setIfInBounds_toArray, List.set_cons_zero, List.set_cons_succ]
      refine Go.Pin.takeQ 4 (by simp only [List.getElem?_toArray, List.getElem?_cons_zero, List.getElem?_cons_succ]; exact rfl) (by kernel_rfl) (by kernel_rfl) (by kernel_rfl) (by rfl) (fun _ _ d _ _ h => by cases d <;> exact h) (st0) (hSq).out (by kernel_rfl) ?_
      intro Kq hKq
      go_big_quiet_op
      go_big_quiet_on
      refine Go.Pin.takeQ 5 (by simp only [List.getElem?_toArray, List.getElem?_cons_zero, List.getElem?_cons_succ]; exact rfl) (by kernel_rfl) (by kernel_rfl) (by kernel_rfl) (by rfl) (fun _ _ d _ _ h => by cases d <;> exact h) (st0) (hSq).out (by kernel_rfl) ?_
      intro Kq hKq
      go_big_quiet_op
      go_big_quiet_on
      refine Go.Pin.takeQ 6 (by simp only [List.getElem?_toArray, List.getElem?_cons_zero, List.getElem?_cons_succ]; exact rfl) (by kernel_rfl) (by kernel_rfl) (by kernel_rfl) (by rfl) (fun _ _ d _ _ h => by cases d <;> exact h) (st0) (hSq).out (by kernel_rfl) ?_
      intro Kq hKq
      go_big_quiet_op
      go_big_quiet_on
      refine Go.Pin.takeQ 7 (by simp only [List.getElem?_toArray, List.getElem?_cons_zero, List.getElem?_cons_succ]; exact rfl) (by kernel_rfl) (by kernel_rfl) (by kernel_rfl) (by rfl) (fun _ _ d _ _ h => by cases d <;> exact h) (st0) (hSq).out (by kernel_rfl) ?_
      intro Kq hKq
      go_big_quiet_op
      go_big_quiet_on
      refine Go.Pin.takeQ 8 (by simp only [List.getElem?_toArray, List.getElem?_cons_zero, List.getElem?_cons_succ]; exact rfl) (by kernel_rfl) (by kernel_rfl) (by kernel_rfl) (by rfl) (fun _ _ d _ _ h => by cases d <;> exact h) (st0) (hSq).out (by kernel_rfl) ?_
      intro Kq hKq
      go_big_quiet_op
      go_big_quiet_on
      have hal := (Below.refl wd.heap.size wd).alloc (Nat.le_refl _) (.cells #[.slice a0 b0.length c0, .slice au ts.length cu] 22)
      have st1 := st0.below hal
      have hm1 := HD.out.below hal
      have hsb : (wd.alloc (.cells #[.slice a0 b0.length c0, .slice au ts.length cu] 22)).heap[wd.heap.size]? = some (.cells #[.slice a0 b0.length c0, .slice au ts.length cu] 22) := heap_alloc_new _ _
      refine Go.Pin.readyQ 9 (by simp only [List.getElem?_toArray, List.getElem?_cons_zero, List.getElem?_cons_succ]; exact rfl) (by kernel_rfl) (by kernel_rfl) ?_
      intro K hK
      refine wpRun (d := some 24) (v := .slice (some ⟨wd.heap.size, 0, none⟩) 2 2) (w' := wd.alloc (.cells #[.slice a0 b0.length c0, .slice au ts.length cu] 22)) rfl (by unfold execOp; go_simp) (hK _ _ st1 ?_)
      simp only [Act.put, List.setIfInBounds_toArray, List.set_cons_zero, List.set_cons_succ]
      clear hK K
      obtain ⟨w2, hw2⟩ : ∃ w2, wd.alloc (.cells #[.slice a0 b0.length c0, .slice au ts.length cu] 22) = w2 := ⟨_, rfl⟩
      rw [hw2] at hal st1 hm1 hsb ⊢
      refine Go.Pin.readyQ 10 (by simp only [List.getElem?_toArray, List.getElem?_cons_zero, List.getElem?_cons_succ]; exact rfl) (by kernel_rfl) (by kernel_rfl) ?_
      intro K hK
      refine wpCallV (d := some 25) (f := 53) (R := fun x w5 => w5.ownsRow w2.heap.size 3 1 x (b0 ++ ts).length ((b0 ++ ts).map (Value.int .i64)) ∧ Below w2.heap.size w2 w5) rfl rfl (args := #[.slice (some ⟨wd.heap.size, 0, none⟩) 2 2]) (by simp only [List.map_toArray, List.map_cons, List.map_nil]; rfl) (fun _ => rfl) (concat2 wd.heap.size _ _ b0 ts w2 hsb (own_ints (hm1.ex.own (f := (0, .slice a0 b0.length c0, b0)) (by simp)) (by have := HN.out; omega)) (own_ints (hm1.ex.own (f := (0, .slice au ts.length cu, ts)) (by simp)) (by have := HN.out; omega)) (by have := HN.out; omega) (by have := HN.out; omega)) ?_
      rintro x w5 ⟨hx, hb5⟩
      obtain ⟨ax, cx, rfl⟩ := own_slice' hx
      refine hK _ _ (st1.below hb5) ?_
      simp only [Act.put, List.setIfInBounds_toArray, List.set_cons_zero, List.set_cons_succ]
      clear hK K
      refine Go.Pin.readyQ 11 (by simp only [List.getElem?_toArray, List.getElem?_cons_zero, List.getElem?_cons_succ]; exact rfl) (by kernel_rfl) (by kernel_rfl) ?_
      intro K hK
      refine wpRun (d := some 4) (v := .slice ax (b0 ++ ts).length cx) (w' := w5) rfl (by unfold execOp; go_simp) (hK _ _ (st1.below hb5) ?_)
      simp only [Act.put, List.setIfInBounds_toArray, List.set_cons_zero, List.set_cons_succ]
      clear hK K
      refine wpAnyH_done (by kernel_rfl) ?_ _
      have hbd5 : Below wd.heap.size wd w5 := hal.trans (hb5.mono hal.size)
      have CS := sort_own w2.heap.size (.slice ax (b0 ++ ts).length cx) (b0 ++ ts) w5 hx (by rw [List.length_append]; have := HN.out; omega)
      have hx5 : ∀ k, (Value.slice ax (b0 ++ ts).length cx).ownBlock = some k → w2.heap.size ≤ k := fun k hk => (hx.lt k hk).1
      have hs2 : wd.heap.size ≤ w2.heap.size := hal.size
      have HB5 : Hid (Below wd.heap.size wd w5 ∧ (∀ k, (Value.slice ax (b0 ++ ts).length cx).ownBlock = some k → w2.heap.size ≤ k) ∧ wd.heap.size ≤ w2.heap.size ∧ w2.heap.size ≤ w5.heap.size) := ⟨hbd5, hx5, hs2, hb5.size⟩
      clear hal hm1 hsb hw2 hx hb5 hbd5 hx5 hs2 st1 st0 hSq hRq hNq y1 y2 y3
      obtain ⟨L, hL⟩ : ∃ L, (b0 ++ ts).length = L := ⟨_, rfl⟩
      have HL : Hid ((b0 ++ ts).length = L) := hL
      rw [hL] at CS HB5 ⊢
      clear hL
      go_upto_region 6 with (go_at_call 54; refine CS.mono ?_; rintro e w6 ⟨rfl, ho6, hg6⟩; have H6 : Hid (w6.ownsRow w2.heap.size 3 1 (.slice ax L cx) L ((srt (b0 ++ ts)).map (Value.int .i64)) ∧ Below wd.heap.size wd w6) := ⟨ho6, HB5.out.1.grown hg6 HB5.out.1.size (fun k hk => Nat.le_trans HB5.out.2.2.1 (HB5.out.2.1 k hk))⟩; clear ho6 hg6 CS)
      have hm6 := HD.out.below H6.out.2.drew
      have hl6 : w6.drew.heap[nb]? = some (.cells #[.int .i64 0, .slice au ts.length cu] 43) := (H6.out.2.block nb (by have := HSD.out; omega)).trans HLD.out
      have ho6 : w6.drew.ownsRow w2.heap.size 3 1 (.slice ax L cx) L ((srt (b0 ++ ts)).map (Value.int .i64)) := H6.out.1
      have hb6 : Below wd.heap.size wd w6.drew := H6.out.2.drew
      obtain ⟨w7, hw7⟩ : ∃ w7, w6.drew = w7 := ⟨_, rfl⟩
      rw [hw7] at hm6 hl6 ho6 hb6
      refine Go.Pin.wp_region_hcls (fun Y => Y.heap[nb]? = some (.cells #[.int .i64 0, .slice au ts.length cu] 43)) 8 (by rfl) (by kernel_rfl) (by rw [hw7]; exact hl6) ?_
      intro Sq fq hNq hRq hSq
      have y2 := fun x => cell_of_row (fq x) nb 0 _ _ _ (hRq x)
      simp at y2
      rw [hw7]
      have HM7 : Hid (MB base m nm (.slice a0 b0.length c0) (.slice a1 b1.length c1) (.slice (some ⟨g, o, none⟩) (N + 1) (cp + 1)) b0 b1 ((0, .slice au ts.length cu, ts) :: r) w7) := hm6
      have HO7 : Hid (w7.ownsRow w2.heap.size 3 1 (.slice ax L cx) L ((srt (b0 ++ ts)).map (Value.int .i64)) ∧ Below wd.heap.size wd w7) := ⟨ho6, hb6⟩
      have k7 := hm6.c1
      have f7 := hm6.fz 1
      clear hm6 ho6 hb6 hw7
      refine Go.Pin.takeQ 0 (by simp only [List.getElem?_toArray, List.getElem?_cons_zero, List.getElem?_cons_succ]; exact rfl) (by kernel_rfl) (by kernel_rfl) (by kernel_rfl) (by rfl) (fun _ _ d _ _ h => by cases d <;> exact h) (hl6) (hSq).out (by kernel_rfl) ?_
      intro Kq hKq
      go_big_quiet_op
      go_big_quiet_on
      refine Go.Pin.takeQ 1 (by simp only [List.getElem?_toArray, List.getElem?_cons_zero, List.getElem?_cons_succ]; exact rfl) (by kernel_rfl) (by kernel_rfl) (by kernel_rfl) (by rfl) (fun _ _ d _ _ h => by cases d <;> exact h) (hl6) (hSq).out (by kernel_rfl) ?_
      intro Kq hKq
      go_big_quiet_op
      go_big_quiet_on
      refine Go.Pin.takeQ 2 (by simp only [List.getElem?_toArray, List.getElem?_cons_zero, List.getElem?_cons_succ]; exact rfl) (by kernel_rfl) (by kernel_rfl) (by kernel_rfl) (by rfl) (fun _ _ d _ _ h => by cases d <;> exact h) (hl6) (hSq).out (by kernel_rfl) ?_
      intro Kq hKq
      go_big_quiet_op
      go_big_quiet_on
      refine Go.Pin.takeQ 3 (by simp only [List.getElem?_toArray, List.getElem?_cons_zero, List.getElem?_cons_succ]; exact rfl) (by kernel_rfl) (by kernel_rfl) (by kernel_rfl) (by rfl) (fun _ _ d _ _ h => by cases d <;> exact h) (hl6) (hSq).out (by kernel_rfl) ?_
      intro Kq hKq
      go_big_quiet_op
      go_big_quiet_on
      refine takeV 4 (.pointer (some ⟨m, 0, none⟩)) (by simp only [List.getElem?_toArray, List.getElem?_cons_zero, List.getElem?_cons_succ]; exact rfl) (by kernel_rfl) (by kernel_rfl) (by kernel_rfl) (fun _ _ d _ _ h => by cases d <;> exact h) (hl6) (by kernel_rfl) (fun Yq hYq => by unfold execOp; go_simp) ?_
      simp only [Act.put, List.setIfInBounds_toArray, List.set_cons_zero, List.set_cons_succ]
      refine Go.Pin.takeQ 5 (by simp only [List.getElem?_toArray, List.getElem?_cons_zero, List.getElem?_cons_succ]; exact rfl) (by kernel_rfl) (by kernel_rfl) (by kernel_rfl) (by rfl) (fun _ _ d _ _ h => by cases d <;> exact h) (hl6) (hSq).out (by kernel_rfl) ?_
      intro Kq hKq
      go_big_quiet_op
      go_big_quiet_on
      refine Go.Pin.takeQ 6 (by simp only [List.getElem?_toArray, List.getElem?_cons_zero, List.getElem?_cons_succ]; exact rfl) (by kernel_rfl) (by kernel_rfl) (by kernel_rfl) (by rfl) (fun _ _ d _ _ h => by cases d <;> exact h) (hl6) (hSq).out (by kernel_rfl) ?_
      intro Kq hKq
      go_big_quiet_op
      go_big_quiet_on
      refine Go.Pin.readyQ 7 (by simp only [List.getElem?_toArray, List.getElem?_cons_zero, List.getElem?_cons_succ]; exact rfl) (by kernel_rfl) (by kernel_rfl) ?_
      intro K hK
      have hmnb : m ≠ nb := by have := HSD.out; omega
      have hl8 : (w7.setCell ⟨m, 1, none⟩ (.slice ax L cx)).heap[nb]? = some (.cells #[.int .i64 0, .slice au ts.length cu] 43) := (heap_setCell_other _ _ _ _ (by show nb ≠ m; exact fun e => hmnb e.symm)).trans hl6
      refine wpSkp (d := none) (w' := w7.setCell ⟨m, 1, none⟩ (.slice ax L cx)) rfl (by unfold execOp; go_simp) (hK _ _ hl8 ?_)
      simp only [Act.put, List.setIfInBounds_toArray, List.set_cons_zero, List.set_cons_succ]
      clear hK K
      refine wpAnyH_done (by kernel_rfl) ?_ _
      have hlsrt : (srt (b0 ++ ts)).length = L := by rw [← HL.out]; unfold srt; simp
      have hexb : EX base [m] [(0, .slice ax L cx, srt (b0 ++ ts)), (1, .slice a1 b1.length c1, b1)] ((0, .slice au ts.length cu, ts) :: r) (.slice (some ⟨g, o, none⟩) (N + 1) (cp + 1)) w7 := by
        refine HD.out.ex.hput (A := []) (B := [(1, .slice a1 b1.length c1, b1)]) (x := (0, .slice ax L cx, srt (b0 ++ ts))) (y := (0, .slice a0 b0.length c0, b0)) (fun k hk => by simp at hk; rw [hk]; exact HD.out.lt) HO7.out.2 ?_ (fun k hk => Nat.le_trans HB5.out.2.2.1 (HB5.out.2.1 k hk))
        simp only
        rw [hlsrt]
        exact own_mn HO7.out.1 (Nat.le_trans (Nat.le_trans HD.out.hb (Nat.le_of_lt HD.out.lt)) HB5.out.2.2.1)
      have hrow8 : (w7.setCell ⟨m, 1, none⟩ (.slice ax L cx)).heap[m]? = some (.cells #[.string nm, .slice ax L cx, .slice a1 b1.length c1, .slice (some ⟨g, o, none⟩) (N + 1) (cp + 1)] 26) := by rw [Go.heap_setCell_same _ _ _ _ _ _ HM7.out.row]; rfl
      have hex8 : EX base [m] [(0, .slice ax L cx, srt (b0 ++ ts)), (1, .slice a1 b1.length c1, b1)] ((0, .slice au ts.length cu, ts) :: r) (.slice (some ⟨g, o, none⟩) (N + 1) (cp + 1)) (w7.setCell ⟨m, 1, none⟩ (.slice ax L cx)) := hexb.keep (fun b _ _ hb => heap_setCell_other _ _ _ _ (by show b ≠ m; exact fun e => hb (by rw [e]; simp)))
      have hbel8 : Below base w (w7.setCell ⟨m, 1, none⟩ (.slice ax L cx)) := (HSD.out.2.1.trans (HO7.out.2.mono (Nat.le_trans HD.out.hb (Nat.le_of_lt HD.out.lt)))).setCell (p := ⟨m, 1, none⟩) HD.out.hb _
      obtain ⟨w8, hw8⟩ : ∃ w8, w7.setCell ⟨m, 1, none⟩ (.slice ax L cx) = w8 := ⟨_, rfl⟩
      rw [hw8] at hrow8 hex8 hbel8 ⊢
      have H8 : Hid (w8.heap[m]? = some (.cells #[.string nm, .slice ax L cx, .slice a1 b1.length c1, .slice (some ⟨g, o, none⟩) (N + 1) (cp + 1)] 26) ∧ EX base [m] [(0, .slice ax L cx, srt (b0 ++ ts)), (1, .slice a1 b1.length c1, b1)] ((0, .slice au ts.length cu, ts) :: r) (.slice (some ⟨g, o, none⟩) (N + 1) (cp + 1)) w8 ∧ Below base w w8) := ⟨hrow8, hex8, hbel8⟩
      have k8 : w8.cell? ⟨m, 3, none⟩ = some (.slice (some ⟨g, o, none⟩) (N + 1) (cp + 1)) := by rw [cell_of_row _ _ _ _ _ _ hrow8]; rfl
      have f8 : w8.frozen? ⟨m, 3, none⟩ = false := frozen_of_row _ _ _ _ _ hrow8
      have q1 : N ≤ cp := HN.out.2.2.1
      clear hrow8 hex8 hbel8 hw8 hl8 k7 f7 hSq hRq hNq y2 hexb hl6
      go_wp2
      · have hcp : cp = 0 := by omega
        subst hcp
        go_ret
        exact ⟨H8.out.2.2.setCell (p := ⟨m, 3, none⟩) HD.out.hb _, rfl, _, _, MB.tail HN.out.1 H8.out.1 H8.out.2.1 HD.out.hb (.inl (by omega))⟩
      · go_ret
        exact ⟨H8.out.2.2.setCell (p := ⟨m, 3, none⟩) HD.out.hb _, rfl, _, _, MB.tail HN.out.1 H8.out.1 H8.out.2.1 HD.out.hb (.inr rfl)⟩
    · have hdr := HM1.out.below (Below.refl w'.heap.size w').drew
      have hlnd : w'.drew.heap[nb]? = some (.cells #[.int .i64 1, .slice au ts.length cu] 43) := HS1.out.2.2.1
      have hbd : Below base w w'.drew := HS1.out.2.1.drew
      have hsd : w'.drew.heap.size = nb + 1 := HS1.out.1
      obtain ⟨wd, hwd⟩ : ∃ wd, w'.drew = wd := ⟨_, rfl⟩
      rw [hwd] at hdr hlnd hbd hsd
      have st0 : F3 base m nb nm (.slice a0 b0.length c0) (.slice a1 b1.length c1) (.slice (some ⟨g, o, none⟩) (N + 1) (cp + 1)) 1 (.slice au ts.length cu) wd := ⟨hdr.row, hlnd⟩
      have HD : Hid (MB base m nm (.slice a0 b0.length c0) (.slice a1 b1.length c1) (.slice (some ⟨g, o, none⟩) (N + 1) (cp + 1)) b0 b1 ((1, .slice au ts.length cu, ts) :: r) wd) := hdr
      have HLD : Hid (wd.heap[nb]? = some (.cells #[.int .i64 1, .slice au ts.length cu] 43)) := hlnd
      have HSD : Hid (wd.heap.size = nb + 1 ∧ Below base w wd ∧ m < nb) := ⟨hsd, hbd, HS1.out.2.2.2⟩
      refine Go.Pin.wp_region_hcls (fun Y => F3 base m nb nm (.slice a0 b0.length c0) (.slice a1 b1.length c1) (.slice (some ⟨g, o, none⟩) (N + 1) (cp + 1)) 1 (.slice au ts.length cu) Y) 12 (by rfl) (by kernel_rfl) (by rw [hwd]; exact st0) ?_
      intro Sq fq hNq hRq hSq
      have y1 := fun x => (hRq x).c2
      have y2 := fun x => (hRq x).l0
      have y3 := fun x => (hRq x).l1
      rw [hwd]
      clear hdr hlnd hbd hsd hwd k3 x0 x1 hl1 CI
      refine Go.Pin.takeQ 0 (by simp only [List.getElem?_toArray, List.getElem?_cons_zero, List.getElem?_cons_succ]; exact rfl) (by kernel_rfl) (by kernel_rfl) (by kernel_rfl) (by rfl) (fun _ _ d _ _ h => by cases d <;> exact h) (st0) (hSq).out (by kernel_rfl) ?_
      intro Kq hKq
      go_big_quiet_op
      go_big_quiet_on
      refine Go.Pin.takeQ 1 (by simp only [List.getElem?_toArray, List.getElem?_cons_zero, List.getElem?_cons_succ]; exact rfl) (by kernel_rfl) (by kernel_rfl) (by kernel_rfl) (by rfl) (fun _ _ d _ _ h => by cases d <;> exact h) (st0) (hSq).out (by kernel_rfl) ?_
      intro Kq hKq
      go_big_quiet_op
      go_big_quiet_on
      refine Go.Pin.takeQ 2 (by simp only [List.getElem?_toArray, List.getElem?_cons_zero, List.getElem?_cons_succ]; exact rfl) (by kernel_rfl) (by kernel_rfl) (by kernel_rfl) (by rfl) (fun _ _ d _ _ h => by cases d <;> exact h) (st0) (hSq).out (by kernel_rfl) ?_
      intro Kq hKq
      go_big_quiet_op
      go_big_quiet_on
      refine takeV 3 (.pointer (some ⟨m, 0, none⟩)) (by simp only [List.getElem?_toArray, List.getElem?_cons_zero, List.getElem?_cons_succ]; exact rfl) (by kernel_rfl) (by kernel_rfl) (by kernel_rfl) (fun _ _ d _ _ h => by cases d <;> exact h) (st0) (by kernel_rfl) (fun Yq hYq => by unfold execOp; go_simp) ?_
      simp only [Act.put, List.setIfInBounds_toArray, List.set_cons_zero, List.set_cons_succ]
      refine Go.Pin.takeQ 4 (by simp only [List.getElem?_toArray, List.getElem?_cons_zero, List.getElem?_cons_succ]; exact rfl) (by kernel_rfl) (by kernel_rfl) (by kernel_rfl) (by rfl) (fun _ _ d _ _ h => by cases d <;> exact h) (st0) (hSq).out (by kernel_rfl) ?_
      intro Kq hKq
      go_big_quiet_op
      go_big_quiet_on
      refine Go.Pin.takeQ 5 (by simp only [List.getElem?_toArray, List.getElem?_cons_zero, List.getElem?_cons_succ]; exact rfl) (by kernel_rfl) (by kernel_rfl) (by kernel_rfl) (by rfl) (fun _ _ d _ _ h => by cases d <;> exact h) (st0) (hSq).out (by kernel_rfl) ?_
      intro Kq hKq
      go_big_quiet_op
      go_big_quiet_on
      refine Go.Pin.takeQ 6 (by simp only [List.getElem?_toArray, List.getElem?_cons_zero, List.getElem?_cons_succ]; exact rfl) (by kernel_rfl) (by kernel_rfl) (by kernel_rfl) (by rfl) (fun _ _ d _ _ h => by cases d <;> exact h) (st0) (hSq).out (by kernel_rfl) ?_
      intro Kq hKq
      go_big_quiet_op
      go_big_quiet_on
      refine Go.Pin.takeQ 7 (by simp only [List.getElem?_toArray, List.getElem?_cons_zero, List.getElem?_cons_succ]; exact rfl) (by kernel_rfl) (by kernel_rfl) (by kernel_rfl) (by rfl) (fun _ _ d _ _ h => by cases d <;> exact h) (st0) (hSq).out (by kernel_rfl) ?_
      intro Kq hKq
      go_big_quiet_op
      go_big_quiet_on
      refine Go.Pin.takeQ 8 (by simp only [List.getElem?_toArray, List.getElem?_cons_zero, List.getElem?_cons_succ]; exact rfl) (by kernel_rfl) (by kernel_rfl) (by kernel_rfl) (by rfl) (fun _ _ d _ _ h => by cases d <;> exact h) (st0) (hSq).out (by kernel_rfl) ?_
      intro Kq hKq
      go_big_quiet_op
      go_big_quiet_on
      have hal := (Below.refl wd.heap.size wd).alloc (Nat.le_refl _) (.cells #[.slice a1 b1.length c1, .slice au ts.length cu] 22)
      have st1 := st0.below hal
      have hm1 := HD.out.below hal
      have hsb : (wd.alloc (.cells #[.slice a1 b1.length c1, .slice au ts.length cu] 22)).heap[wd.heap.size]? = some (.cells #[.slice a1 b1.length c1, .slice au ts.length cu] 22) := heap_alloc_new _ _
      refine Go.Pin.readyQ 9 (by simp only [List.getElem?_toArray, List.getElem?_cons_zero, List.getElem?_cons_succ]; exact rfl) (by kernel_rfl) (by kernel_rfl) ?_
      intro K hK
      refine wpRun (d := some 24) (v := .slice (some ⟨wd.heap.size, 0, none⟩) 2 2) (w' := wd.alloc (.cells #[.slice a1 b1.length c1, .slice au ts.length cu] 22)) rfl (by unfold execOp; go_simp) (hK _ _ st1 ?_)
      simp only [Act.put, List.setIfInBounds_toArray, List.set_cons_zero, List.set_cons_succ]
      clear hK K
      obtain ⟨w2, hw2⟩ : ∃ w2, wd.alloc (.cells #[.slice a1 b1.length c1, .slice au ts.length cu] 22) = w2 := ⟨_, rfl⟩
      rw [hw2] at hal st1 hm1 hsb ⊢
      refine Go.Pin.readyQ 10 (by simp only [List.getElem?_toArray, List.getElem?_cons_zero, List.getElem?_cons_succ]; exact rfl) (by kernel_rfl) (by kernel_rfl) ?_
      intro K hK
      refine wpCallV (d := some 25) (f := 53) (R := fun x w5 => w5.ownsRow w2.heap.size 3 1 x (b1 ++ ts).length ((b1 ++ ts).map (Value.int .i64)) ∧ Below w2.heap.size w2 w5) rfl rfl (args := #[.slice (some ⟨wd.heap.size, 0, none⟩) 2 2]) (by simp only [List.map_toArray, List.map_cons, List.map_nil]; rfl) (fun _ => rfl) (concat2 wd.heap.size _ _ b1 ts w2 hsb (own_ints (hm1.ex.own (f := (1, .slice a1 b1.length c1, b1)) (by simp)) (by have := HN.out; omega)) (own_ints (hm1.ex.own (f := (1, .slice au ts.length cu, ts)) (by simp)) (by have := HN.out; omega)) (by have := HN.out; omega) (by have := HN.out; omega)) ?_
      rintro x w5 ⟨hx, hb5⟩
      obtain ⟨ax, cx, rfl⟩ := own_slice' hx
      refine hK _ _ (st1.below hb5) ?_
      simp only [Act.put, List.setIfInBounds_toArray, List.set_cons_zero, List.set_cons_succ]
      clear hK K
      refine Go.Pin.readyQ 11 (by simp only [List.getElem?_toArray, List.getElem?_cons_zero, List.getElem?_cons_succ]; exact rfl) (by kernel_rfl) (by kernel_rfl) ?_
      intro K hK
      refine wpRun (d := some 4) (v := .slice ax (b1 ++ ts).length cx) (w' := w5) rfl (by unfold execOp; go_simp) (hK _ _ (st1.below hb5) ?_)
      simp only [Act.put, List.setIfInBounds_toArray, List.set_cons_zero, List.set_cons_succ]
      clear hK K
      refine wpAnyH_done (by kernel_rfl) ?_ _
      have hbd5 : Below wd.heap.size wd w5 := hal.trans (hb5.mono hal.size)
      have CS := sort_own w2.heap.size (.slice ax (b1 ++ ts).length cx) (b1 ++ ts) w5 hx (by rw [List.length_append]; have := HN.out; omega)
      have hx5 : ∀ k, (Value.slice ax (b1 ++ ts).length cx).ownBlock = some k → w2.heap.size ≤ k := fun k hk => (hx.lt k hk).1
      have hs2 : wd.heap.size ≤ w2.heap.size := hal.size
      have HB5 : Hid (Below wd.heap.size wd w5 ∧ (∀ k, (Value.slice ax (b1 ++ ts).length cx).ownBlock = some k → w2.heap.size ≤ k) ∧ wd.heap.size ≤ w2.heap.size ∧ w2.heap.size ≤ w5.heap.size) := ⟨hbd5, hx5, hs2, hb5.size⟩
      clear hal hm1 hsb hw2 hx hb5 hbd5 hx5 hs2 st1 st0 hSq hRq hNq y1 y2 y3
      obtain ⟨L, hL⟩ : ∃ L, (b1 ++ ts).length = L := ⟨_, rfl⟩
      have HL : Hid ((b1 ++ ts).length = L) := hL
      rw [hL] at CS HB5 ⊢
      clear hL
      go_upto_region 6 with (go_at_call 54; refine CS.mono ?_; rintro e w6 ⟨rfl, ho6, hg6⟩; have H6 : Hid (w6.ownsRow w2.heap.size 3 1 (.slice ax L cx) L ((srt (b1 ++ ts)).map (Value.int .i64)) ∧ Below wd.heap.size wd w6) := ⟨ho6, HB5.out.1.grown hg6 HB5.out.1.size (fun k hk => Nat.le_trans HB5.out.2.2.1 (HB5.out.2.1 k hk))⟩; clear ho6 hg6 CS)
      have hm6 := HD.out.below H6.out.2.drew
      have hl6 : w6.drew.heap[nb]? = some (.cells #[.int .i64 1, .slice au ts.length cu] 43) := (H6.out.2.block nb (by have := HSD.out; omega)).trans HLD.out
      have ho6 : w6.drew.ownsRow w2.heap.size 3 1 (.slice ax L cx) L ((srt (b1 ++ ts)).map (Value.int .i64)) := H6.out.1
      have hb6 : Below wd.heap.size wd w6.drew := H6.out.2.drew
      obtain ⟨w7, hw7⟩ : ∃ w7, w6.drew = w7 := ⟨_, rfl⟩
      rw [hw7] at hm6 hl6 ho6 hb6
      refine Go.Pin.wp_region_hcls (fun Y => Y.heap[nb]? = some (.cells #[.int .i64 1, .slice au ts.length cu] 43)) 8 (by rfl) (by kernel_rfl) (by rw [hw7]; exact hl6) ?_
      intro Sq fq hNq hRq hSq
      have y2 := fun x => cell_of_row (fq x) nb 0 _ _ _ (hRq x)
      simp at y2
      rw [hw7]
      have HM7 : Hid (MB base m nm (.slice a0 b0.length c0) (.slice a1 b1.length c1) (.slice (some ⟨g, o, none⟩) (N + 1) (cp + 1)) b0 b1 ((1, .slice au ts.length cu, ts) :: r) w7) := hm6
      have HO7 : Hid (w7.ownsRow w2.heap.size 3 1 (.slice ax L cx) L ((srt (b1 ++ ts)).map (Value.int .i64)) ∧ Below wd.heap.size wd w7) := ⟨ho6, hb6⟩
      have k7 := hm6.c2
      have f7 := hm6.fz 2
      clear hm6 ho6 hb6 hw7
      refine Go.Pin.takeQ 0 (by simp only [List.getElem?_toArray, List.getElem?_cons_zero, List.getElem?_cons_succ]; exact rfl) (by kernel_rfl) (by kernel_rfl) (by kernel_rfl) (by rfl) (fun _ _ d _ _ h => by cases d <;> exact h) (hl6) (hSq).out (by kernel_rfl) ?_
      intro Kq hKq
      go_big_quiet_op
      go_big_quiet_on
      refine Go.Pin.takeQ 1 (by simp only [List.getElem?_toArray, List.getElem?_cons_zero, List.getElem?_cons_succ]; exact rfl) (by kernel_rfl) (by kernel_rfl) (by kernel_rfl) (by rfl) (fun _ _ d _ _ h => by cases d <;> exact h) (hl6) (hSq).out (by kernel_rfl) ?_
      intro Kq hKq
      go_big_quiet_op
      go_big_quiet_on
      refine Go.Pin.takeQ 2 (by simp only [List.getElem?_toArray, List.getElem?_cons_zero, List.getElem?_cons_succ]; exact rfl) (by kernel_rfl) (by kernel_rfl) (by kernel_rfl) (by rfl) (fun _ _ d _ _ h => by cases d <;> exact h) (hl6) (hSq).out (by kernel_rfl) ?_
      intro Kq hKq
      go_big_quiet_op
      go_big_quiet_on
      refine Go.Pin.takeQ 3 (by simp only [List.getElem?_toArray, List.getElem?_cons_zero, List.getElem?_cons_succ]; exact rfl) (by kernel_rfl) (by kernel_rfl) (by kernel_rfl) (by rfl) (fun _ _ d _ _ h => by cases d <;> exact h) (hl6) (hSq).out (by kernel_rfl) ?_
      intro Kq hKq
      go_big_quiet_op
      go_big_quiet_on
      refine takeV 4 (.pointer (some ⟨m, 0, none⟩)) (by simp only [List.getElem?_toArray, List.getElem?_cons_zero, List.getElem?_cons_succ]; exact rfl) (by kernel_rfl) (by kernel_rfl) (by kernel_rfl) (fun _ _ d _ _ h => by cases d <;> exact h) (hl6) (by kernel_rfl) (fun Yq hYq => by unfold execOp; go_simp) ?_
      simp only [Act.put, List.setIfInBounds_toArray, List.set_cons_zero, List.set_cons_succ]
      refine Go.Pin.takeQ 5 (by simp only [List.getElem?_toArray, List.getElem?_cons_zero, List.getElem?_cons_succ]; exact rfl) (by kernel_rfl) (by kernel_rfl) (by kernel_rfl) (by rfl) (fun _ _ d _ _ h => by cases d <;> exact h) (hl6) (hSq).out (by kernel_rfl) ?_
      intro Kq hKq
      go_big_quiet_op
      go_big_quiet_on
      refine Go.Pin.takeQ 6 (by simp only [List.getElem?_toArray, List.getElem?_cons_zero, List.getElem?_cons_succ]; exact rfl) (by kernel_rfl) (by kernel_rfl) (by kernel_rfl) (by rfl) (fun _ _ d _ _ h => by cases d <;> exact h) (hl6) (hSq).out (by kernel_rfl) ?_
      intro Kq hKq
      go_big_quiet_op
      go_big_quiet_on
      refine Go.Pin.readyQ 7 (by simp only [List.getElem?_toArray, List.getElem?_cons_zero, List.getElem?_cons_succ]; exact rfl) (by kernel_rfl) (by kernel_rfl) ?_
      intro K hK
      have hmnb : m ≠ nb := by have := HSD.out; omega
      have hl8 : (w7.setCell ⟨m, 2, none⟩ (.slice ax L cx)).heap[nb]? = some (.cells #[.int .i64 1, .slice au ts.length cu] 43) := (heap_setCell_other _ _ _ _ (by show nb ≠ m; exact fun e => hmnb e.symm)).trans hl6
      refine wpSkp (d := none) (w' := w7.setCell ⟨m, 2, none⟩ (.slice ax L cx)) rfl (by unfold execOp; go_simp) (hK _ _ hl8 ?_)
      simp only [Act.put, List.setIfInBounds_toArray, List.set_cons_zero, List.set_cons_succ]
      clear hK K
      refine wpAnyH_done (by kernel_rfl) ?_ _
      have hlsrt : (srt (b1 ++ ts)).length = L := by rw [← HL.out]; unfold srt; simp
      have hexb : EX base [m] [(0, .slice a0 b0.length c0, b0), (1, .slice ax L cx, srt (b1 ++ ts))] ((1, .slice au ts.length cu, ts) :: r) (.slice (some ⟨g, o, none⟩) (N + 1) (cp + 1)) w7 := by
        refine HD.out.ex.hput (A := [(0, .slice a0 b0.length c0, b0)]) (B := []) (x := (1, .slice ax L cx, srt (b1 ++ ts))) (y := (1, .slice a1 b1.length c1, b1)) (fun k hk => by simp at hk; rw [hk]; exact HD.out.lt) HO7.out.2 ?_ (fun k hk => Nat.le_trans HB5.out.2.2.1 (HB5.out.2.1 k hk))
        simp only
        rw [hlsrt]
        exact own_mn HO7.out.1 (Nat.le_trans (Nat.le_trans HD.out.hb (Nat.le_of_lt HD.out.lt)) HB5.out.2.2.1)
      have hrow8 : (w7.setCell ⟨m, 2, none⟩ (.slice ax L cx)).heap[m]? = some (.cells #[.string nm, .slice a0 b0.length c0, .slice ax L cx, .slice (some ⟨g, o, none⟩) (N + 1) (cp + 1)] 26) := by rw [Go.heap_setCell_same _ _ _ _ _ _ HM7.out.row]; rfl
      have hex8 : EX base [m] [(0, .slice a0 b0.length c0, b0), (1, .slice ax L cx, srt (b1 ++ ts))] ((1, .slice au ts.length cu, ts) :: r) (.slice (some ⟨g, o, none⟩) (N + 1) (cp + 1)) (w7.setCell ⟨m, 2, none⟩ (.slice ax L cx)) := hexb.keep (fun b _ _ hb => heap_setCell_other _ _ _ _ (by show b ≠ m; exact fun e => hb (by rw [e]; simp)))
      have hbel8 : Below base w (w7.setCell ⟨m, 2, none⟩ (.slice ax L cx)) := (HSD.out.2.1.trans (HO7.out.2.mono (Nat.le_trans HD.out.hb (Nat.le_of_lt HD.out.lt)))).setCell (p := ⟨m, 2, none⟩) HD.out.hb _
      obtain ⟨w8, hw8⟩ : ∃ w8, w7.setCell ⟨m, 2, none⟩ (.slice ax L cx) = w8 := ⟨_, rfl⟩
      rw [hw8] at hrow8 hex8 hbel8 ⊢
      have H8 : Hid (w8.heap[m]? = some (.cells #[.string nm, .slice a0 b0.length c0, .slice ax L cx, .slice (some ⟨g, o, none⟩) (N + 1) (cp + 1)] 26) ∧ EX base [m] [(0, .slice a0 b0.length c0, b0), (1, .slice ax L cx, srt (b1 ++ ts))] ((1, .slice au ts.length cu, ts) :: r) (.slice (some ⟨g, o, none⟩) (N + 1) (cp + 1)) w8 ∧ Below base w w8) := ⟨hrow8, hex8, hbel8⟩
      have k8 : w8.cell? ⟨m, 3, none⟩ = some (.slice (some ⟨g, o, none⟩) (N + 1) (cp + 1)) := by rw [cell_of_row _ _ _ _ _ _ hrow8]; rfl
      have f8 : w8.frozen? ⟨m, 3, none⟩ = false := frozen_of_row _ _ _ _ _ hrow8
      have q1 : N ≤ cp := HN.out.2.2.1
      clear hrow8 hex8 hbel8 hw8 hl8 k7 f7 hSq hRq hNq y2 hexb hl6
      go_wp2
      · have hcp : cp = 0 := by omega
        subst hcp
        go_ret
        exact ⟨H8.out.2.2.setCell (p := ⟨m, 3, none⟩) HD.out.hb _, rfl, _, _, MB.tail HN.out.1 H8.out.1 H8.out.2.1 HD.out.hb (.inl (by omega))⟩
      · go_ret
        exact ⟨H8.out.2.2.setCell (p := ⟨m, 3, none⟩) HD.out.hb _, rfl, _, _, MB.tail HN.out.1 H8.out.1 H8.out.2.1 HD.out.hb (.inr rfl)⟩
end Go.Proofs.YtpfidohkohldaaaGreatDoor
/- fallback of a valid pattern: what it makes known is sorted, and nothing is known twice -/
namespace Go.Pat
theorem ahd_cases {l : List Int} (h : ahd l = true) : l = [] ∨ l = [1] ∨ l = [2] ∨ l = [1, 2] := by
  match l, h with
  | [], _ => exact .inl rfl
  | [a], h =>
    simp only [ahd, Bool.or_eq_true, beq_iff_eq] at h
    rcases h with rfl | rfl
    · exact .inr (.inl rfl)
    · exact .inr (.inr (.inl rfl))
  | [a, b], h =>
    simp only [ahd, Bool.and_eq_true, beq_iff_eq] at h
    obtain ⟨rfl, rfl⟩ := h
    exact .inr (.inr (.inr rfl))
  | _ :: _ :: _ :: _, h => simp [ahd] at h
theorem chk_first {p : Pt} {f : Int} {ts : List Int} {r : List Ln} (h : chk p = 0) (hp : p.ln = (f, ts) :: r) : (tks f.toNat (beg p) ts).2 = 0 := by
  have hs := chk_shaped h
  unfold chk at h
  rw [hs, if_neg (by simp)] at h
  by_cases hl : (lns (beg p) p.ln).2 = 0
  · rw [hp] at hl
    unfold lns at hl
    by_cases ht : (tks f.toNat (beg p) ts).2 = 0
    · exact ht
    · rw [if_pos ht] at hl
      exact hl
  · rw [if_pos hl] at h
    exact absurd h hl
def srtL (A : List Int) : List Int := A.mergeSort fun x y => decide (x ≤ y)
theorem srt_le {l m : List Int} (hp : l.Perm m) (hs : m.Pairwise fun x y => decide (x ≤ y) = true) : srtL l = m := by
  unfold srtL
  have tr : ∀ a b c : Int, decide (a ≤ b) = true → decide (b ≤ c) = true → decide (a ≤ c) = true := fun a b c h1 h2 => by simp only [decide_eq_true_eq] at *; omega
  have tz : ∀ a b : Int, (decide (a ≤ b) || decide (b ≤ a)) = true := fun a b => by simp; omega
  exact List.Perm.eq_of_pairwise (le := fun a b => decide (a ≤ b) = true) (fun a b _ _ h1 h2 => by simp only [decide_eq_true_eq] at h1 h2; omega) (List.pairwise_mergeSort tr tz l) hs ((List.mergeSort_perm l _).trans hp)
theorem srt_0 : srtL [] = [] := srt_le (List.Perm.refl _) (by simp)
theorem srt_1 (a : Int) : srtL [a] = [a] := srt_le (List.Perm.refl _) (by simp)
theorem srt_12 : srtL [1, 2] = [1, 2] := srt_le (List.Perm.refl _) (by decide)
theorem srt_21 : srtL [2, 1] = [1, 2] := srt_le (List.Perm.swap _ _ _) (by decide)
theorem bck_ok {p : Pt} {f : Int} {ts : List Int} {r : List Ln} (h : chk p = 0) (hp : p.ln = (f, ts) :: r) (ha : ahd ts = true) :
    bck p = some (if f = 1 then ⟨p.nm, p.b0, srtL (p.b1 ++ ts), r⟩ else ⟨p.nm, srtL (p.b0 ++ ts), p.b1, r⟩) := by
  have ht := chk_first h hp
  have hs := chk_shaped h
  unfold shaped at hs
  simp only [Bool.and_eq_true] at hs
  have hf : f = 0 ∨ f = 1 := by
    have := hs.2
    rw [hp, shp_split] at this
    simp only [Bool.and_eq_true, decide_eq_true_eq] at this
    exact this.1.1.1.1.1
  have h0 := ahd_cases hs.1.1.1
  have h1 := ahd_cases hs.1.1.2
  unfold bck
  unfold beg at ht
  rw [hp]
  obtain ⟨nm, b0, b1, ln⟩ := p
  simp only at h0 h1 ht ⊢
  clear hs h hp
  rcases ahd_cases ha with rfl | rfl | rfl | rfl <;> rcases hf with rfl | rfl <;> rcases h0 with rfl | rfl | rfl | rfl <;> rcases h1 with rfl | rfl | rfl | rfl <;>
    first
      | (exfalso; revert ht; decide)
      | (simp [ahd, eCnt, sCnt, kn, srt_0, srt_1, srt_12, srt_21]; done)
end Go.Pat
/- the words of a modified pattern's name -/
namespace Go.Pat
theorem nmb_size {s : ByteArray} (h : 0 ≤ nmb s) : s.size ≤ 6 := by
  unfold nmb at h
  split at h
  · omega
  · omega
theorem wd1_size {b : Bool} {p : Pt} {l : Int} {s : ByteArray} {x : Pt × Int} (h : wd1 b p l s = some x) : s.size ≤ 8 := by
  unfold wd1 at h
  split at h
  · rename_i h1
    rw [h1.1]
    decide
  · split at h
    · cases h
    · rename_i _ h2
      have := nmb_size (s := s) (by omega)
      omega
theorem wdsM_pre {p : Pt} {ws : List ByteArray} : ∀ {i : Nat} {x : Pt × Int}, wdsM p ws i = some x → ∀ j, j < i → (ws.getD j ⟨#[]⟩).size ≤ 8
  | 0, x, h, j, hj => absurd hj (Nat.not_lt_zero _)
  | i + 1, x, h, j, hj => by
    unfold wdsM at h
    cases e : wdsM p ws i with
    | none => rw [e] at h; cases h
    | some y =>
      obtain ⟨q, l⟩ := y
      rw [e] at h
      simp only at h
      by_cases hji : j = i
      · rw [hji]; exact wd1_size h
      · exact wdsM_pre e j (by omega)
theorem wdsM_none {p : Pt} {ws : List ByteArray} {i : Nat} (h : wdsM p ws i = none) : ∀ k, wdsM p ws (i + k) = none
  | 0 => h
  | k + 1 => by
    show wdsM p ws (i + k + 1) = none
    unfold wdsM
    rw [wdsM_none h k]
theorem join_snoc (sep : List UInt8) : ∀ (xs : List (List UInt8)) (y : List UInt8), Lib.join (xs ++ [y]) sep = if xs = [] then y else Lib.join xs sep ++ sep ++ y
  | [], y => by simp [Lib.join, List.intercalate]
  | [x], y => by simp [Lib.join, List.intercalate]
  | x :: z :: r, y => by
    have ih := join_snoc sep (z :: r) y
    rw [if_neg (by simp)] at ih ⊢
    have e : ∀ (a b : List UInt8) (l : List (List UInt8)), Lib.join (a :: b :: l) sep = a ++ sep ++ Lib.join (b :: l) sep := fun a b l => by simp [Lib.join, List.intercalate]
    rw [List.cons_append, List.cons_append, e, ← List.cons_append, ih, e]
    simp
theorem nmN_join (nm : ByteArray) (ws : List ByteArray) : ∀ i, i ≤ ws.length → toL (nmN nm ws i) = toL nm ++ Lib.join ((ws.take i).map toL) [43]
  | 0, _ => by simp [nmN, Lib.join, List.intercalate]
  | i + 1, h => by
    have ih := nmN_join nm ws i (by omega)
    have hi : i < ws.length := by omega
    rw [List.take_add_one, List.getElem?_eq_getElem hi]
    simp only [Option.toList, List.map_append, List.map_cons, List.map_nil]
    rw [join_snoc]
    have hg : ws.getD i ⟨#[]⟩ = ws[i] := by simp [List.getD, hi]
    unfold nmN
    rw [hg]
    have ha : ∀ a b : ByteArray, toL (a ++ b) = toL a ++ toL b := fun a b => by simp [toL]
    by_cases h0 : i = 0
    · subst h0
      rw [if_pos rfl, if_pos (by simp), ha]
      rfl
    · rw [if_neg h0, if_neg (by simp [h0]; intro e; rw [e] at hi; simp at hi), ha, ha, ih]
      simp [toL]
theorem join_len : ∀ (xs : List (List UInt8)), (∀ x ∈ xs, x.length ≤ 8) → (Lib.join xs [43]).length ≤ 9 * xs.length
  | [], _ => by simp [Lib.join, List.intercalate]
  | [x], h => by
    have := h x (by simp)
    simp [Lib.join, List.intercalate]
    omega
  | x :: z :: r, h => by
    have ih := join_len (z :: r) (fun y hy => h y (List.mem_cons_of_mem _ hy))
    have h1 := h x List.mem_cons_self
    have e : Lib.join (x :: z :: r) [43] = x ++ [43] ++ Lib.join (z :: r) [43] := by simp [Lib.join, List.intercalate]
    rw [e, List.length_append, List.length_append]
    simp only [List.length_cons, List.length_nil] at ih ⊢
    omega
end Go.Pat
