import Derived.Test.YtfkbgodfcnmepaaDoorDmal
import Derived.Test.YtfkbgodfcnmepaaDoorDmaf
namespace Go.Proofs.YtfkbgodfcnmepaaDoor
set_option linter.unusedSimpArgs false
set_option linter.unusedVariables false
open Go.ChangeShapes Go.WideShapes Go.ChangeAt Go.RowKit Go.Pin Go.Str Go.Dig
/-- a byte as a number -/
def bn (D : List Int) (t : Nat) : Nat := (D.getD t 0).toNat
theorem bn_lt {D : List Int} (h : Byb D) (t : Nat) : bn D t < 256 := by have := h.at t; unfold bn; omega
theorem bn_int {D : List Int} (h : Byb D) (t : Nat) : D.getD t 0 = ((bn D t : Nat) : Int) := by have := h.at t; unfold bn; omega
/-- the words, of the bytes up to i -/
def wpT (D : List Int) (i j : Nat) : Nat := (if 4 * j < i then bn D (4 * j) else 0) + (if 4 * j + 1 < i then 256 * bn D (4 * j + 1) else 0) + (if 4 * j + 2 < i then 65536 * bn D (4 * j + 2) else 0) + (if 4 * j + 3 < i then 16777216 * bn D (4 * j + 3) else 0)
def mpT (D : List Int) (i : Nat) : List Nat := (List.range 16).map (wpT D i)
theorem mpT_len (D : List Int) (i : Nat) : (mpT D i).length = 16 := by simp [mpT]
theorem mpT_at (D : List Int) (i : Nat) {j : Nat} (hj : j < 16) : (mpT D i).getD j 0 = wpT D i j := by
  simp only [mpT, List.getD, List.getElem?_map, List.getElem?_range hj, Option.map_some, Option.getD_some]
theorem mpT_zero (D : List Int) : mpT D 0 = z16n := by
  apply list_ext (by rw [mpT_len]; rfl)
  intro j hj
  rw [mpT_len] at hj
  rw [mpT_at _ _ hj, show z16n = List.replicate 16 0 from rfl, List.getD_eq_getElem?_getD, List.getElem?_replicate, if_pos hj]
  unfold wpT
  simp
theorem wpT_lt {D : List Int} (h : Byb D) (i j : Nat) : wpT D i j < 4294967296 := by
  have h0 := bn_lt h (4 * j)
  have h1 := bn_lt h (4 * j + 1)
  have h2 := bn_lt h (4 * j + 2)
  have h3 := bn_lt h (4 * j + 3)
  unfold wpT
  split <;> split <;> split <;> split <;> omega
theorem wpT_step (D : List Int) (i : Nat) : wpT D (i + 1) (i / 4) = wpT D i (i / 4) + bn D i * 256 ^ (i % 4) := by
  have hm : i % 4 < 4 := Nat.mod_lt _ (by decide)
  have hd : i = 4 * (i / 4) + i % 4 := by omega
  obtain ⟨q, hq⟩ : ∃ q, i / 4 = q := ⟨_, rfl⟩
  obtain ⟨k, hk⟩ : ∃ k, i % 4 = k := ⟨_, rfl⟩
  rw [hq, hk] at hd
  rw [hk] at hm
  rw [hq, hk]
  subst hd
  rcases (by omega : k = 0 ∨ k = 1 ∨ k = 2 ∨ k = 3) with rfl | rfl | rfl | rfl
  · unfold wpT
    rw [if_pos (by omega), if_neg (by omega), if_neg (by omega), if_neg (by omega), if_neg (by omega), if_neg (by omega), if_neg (by omega), if_neg (by omega)]
    simp
  · unfold wpT
    rw [if_pos (by omega), if_pos (by omega), if_neg (by omega), if_neg (by omega), if_pos (by omega), if_neg (by omega), if_neg (by omega), if_neg (by omega)]
    omega
  · unfold wpT
    rw [if_pos (by omega), if_pos (by omega), if_pos (by omega), if_neg (by omega), if_pos (by omega), if_pos (by omega), if_neg (by omega), if_neg (by omega), show (256 : Nat) ^ 2 = 65536 from rfl]
    omega
  · unfold wpT
    rw [if_pos (by omega), if_pos (by omega), if_pos (by omega), if_pos (by omega), if_pos (by omega), if_pos (by omega), if_pos (by omega), if_neg (by omega), show (256 : Nat) ^ 3 = 16777216 from rfl]
    omega
theorem wpT_other (D : List Int) {i j : Nat} (h : i / 4 ≠ j) : wpT D (i + 1) j = wpT D i j := by
  unfold wpT
  have e0 : (4 * j < i + 1) = (4 * j < i) := propext ⟨fun _ => by omega, fun _ => by omega⟩
  have e1 : (4 * j + 1 < i + 1) = (4 * j + 1 < i) := propext ⟨fun _ => by omega, fun _ => by omega⟩
  have e2 : (4 * j + 2 < i + 1) = (4 * j + 2 < i) := propext ⟨fun _ => by omega, fun _ => by omega⟩
  have e3 : (4 * j + 3 < i + 1) = (4 * j + 3 < i) := propext ⟨fun _ => by omega, fun _ => by omega⟩
  simp only [e0, e1, e2, e3]
theorem mpT_set (D : List Int) {i : Nat} (hi : i < 64) : (mpT D i).set (i / 4) (wpT D i (i / 4) + bn D i * 256 ^ (i % 4)) = mpT D (i + 1) := by
  apply list_ext (by simp [mpT])
  intro j hj
  rw [List.length_set, mpT_len] at hj
  by_cases e : i / 4 = j
  · rw [e, getD_set_eq _ _ _ (by rw [mpT_len]; exact hj), mpT_at _ _ hj, ← e, wpT_step]
  · rw [getD_set_ne _ _ _ _ e, mpT_at _ _ hj, mpT_at _ _ hj, wpT_other D e]
theorem bn_out (D : List Int) {t : Nat} (h : D.length ≤ t) : bn D t = 0 := by
  unfold bn
  rw [List.getD_eq_getElem?_getD, List.getElem?_eq_none h]
  rfl
theorem mpT_full {D : List Int} (h : Byb D) : mpT D D.length = wds D := by
  apply list_ext (by rw [mpT_len, wds_len])
  intro j hj
  rw [mpT_len] at hj
  rw [mpT_at _ _ hj, wds_at D hj]
  have e := wdi_int h j
  rw [bn_int h, bn_int h (4 * j + 1), bn_int h (4 * j + 2), bn_int h (4 * j + 3)] at e
  have f : ∀ t (c : Nat), (if t < D.length then c * bn D t else 0) = c * bn D t := fun t c => by
    split
    · rfl
    · rw [bn_out D (by omega)]; simp
  have f0 := f (4 * j) 1
  simp only [Nat.one_mul] at f0
  unfold wpT
  rw [f0, f, f, f]
  omega
/-- v while h and the beginning come in -/
def vbT (h : List Nat) (i : Nat) : List Nat := (List.range 16).map fun j => if j < 8 then (if j < i then h.getD j 0 else 0) else if j < 8 + i then iv.getD (j - 8) 0 else 0
theorem vbT_len (h : List Nat) (i : Nat) : (vbT h i).length = 16 := by simp [vbT]
theorem vbT_at (h : List Nat) (i : Nat) {j : Nat} (hj : j < 16) : (vbT h i).getD j 0 = if j < 8 then (if j < i then h.getD j 0 else 0) else if j < 8 + i then iv.getD (j - 8) 0 else 0 := by
  simp only [vbT, List.getD, List.getElem?_map, List.getElem?_range hj, Option.map_some, Option.getD_some]
theorem vbT_zero (h : List Nat) : vbT h 0 = z16n := by
  apply list_ext (by rw [vbT_len]; rfl)
  intro j hj
  rw [vbT_len] at hj
  have hz : z16n.getD j 0 = 0 := by
    rw [show z16n = List.replicate 16 0 from rfl, List.getD_eq_getElem?_getD, List.getElem?_replicate, if_pos hj]; rfl
  rw [vbT_at _ _ hj, hz]
  by_cases h8 : j < 8
  · rw [if_pos h8, if_neg (by omega)]
  · rw [if_neg h8, if_neg (by omega)]
theorem vbT_set (h : List Nat) {i : Nat} (hi : i < 8) : ((vbT h i).set i (h.getD i 0)).set (8 + i) (iv.getD i 0) = vbT h (i + 1) := by
  apply list_ext (by simp [vbT])
  intro j hj
  rw [List.length_set, List.length_set, vbT_len] at hj
  by_cases e : 8 + i = j
  · rw [← e, getD_set_eq _ _ _ (by rw [List.length_set, vbT_len]; omega), vbT_at _ _ (by omega), if_neg (by omega), if_pos (by omega), show 8 + i - 8 = i by omega]
  · rw [getD_set_ne _ _ _ _ e]
    by_cases e2 : i = j
    · rw [← e2, getD_set_eq _ _ _ (by rw [vbT_len]; omega), vbT_at _ _ (by omega), if_pos hi, if_pos (by omega)]
    · rw [getD_set_ne _ _ _ _ e2, vbT_at _ _ hj, vbT_at _ _ hj]
      by_cases h8 : j < 8
      · rw [if_pos h8, if_pos h8]
        by_cases h9 : j < i
        · rw [if_pos h9, if_pos (by omega)]
        · rw [if_neg h9, if_neg (by omega)]
      · rw [if_neg h8, if_neg h8]
        by_cases h9 : j < 8 + i
        · rw [if_pos h9, if_pos (by omega)]
        · rw [if_neg h9, if_neg (by omega)]
theorem vbT_full {h : List Nat} (hh : h.length = 8) : vbT h 8 = h ++ iv := by
  rw [← vbl_full hh]
  apply list_ext (by rw [vbT_len, vbl_len])
  intro j hj
  rw [vbT_len] at hj
  rw [vbT_at _ _ hj, vbl_at _ _ hj]
  by_cases h8 : j < 8
  · rw [if_pos h8, if_pos h8, if_pos h8]
  · rw [if_neg h8, if_neg h8]
theorem but_setRow (w : World) (g : Nat) (cs : Array Value) : But (fun k => k = g) w (w.setRow g cs) :=
  ⟨rfl, rfl, rfl, size_setRow _ _ _, fun k hk => setRow_other w g k _ hk⟩
def z8n : List Nat := List.replicate 8 0
theorem info8i : (Tryd.prog.info? 78).map (·.size) = some 8 := by kernel_rfl
/-- press's boxes -/
structure PB (n gi gv : Nat) (w : World) (hL mL vL : List Nat) (wr : World) : Prop where
  old : Below n w wr
  hh : RI wr n hL 78
  hr : RI wr (n + 1) z8n 78
  hm : RI wr (n + 2) mL 95
  hi : RI wr gi iv 78
  hv : RI wr gv vL 95
  ne : n + 2 < gi ∧ gi < gv ∧ gv < wr.heap.size
section
variable {n gi gv : Nat} {w wr : World} {hL mL vL : List Nat}
theorem PB.below (h : PB n gi gv w hL mL vL wr) {w' : World} (hb : Below wr.heap.size wr w') : PB n gi gv w hL mL vL w' := by
  have ne := h.ne
  exact ⟨h.old.trans (hb.mono (by omega)), (hb.block _ (by omega)).trans h.hh, (hb.block _ (by omega)).trans h.hr, (hb.block _ (by omega)).trans h.hm, (hb.block _ (by omega)).trans h.hi, (hb.block _ (by omega)).trans h.hv, ne.1, ne.2.1, Nat.lt_of_lt_of_le ne.2.2 hb.size⟩
theorem PB.setV (h : PB n gi gv w hL mL vL wr) (i v : Nat) : PB n gi gv w hL mL (vL.set i v) (wr.setCell ⟨gv, i, none⟩ (.int .i64 (v : Int))) := by
  have ne := h.ne
  exact ⟨h.old.setCell (p := ⟨gv, i, none⟩) (by show n ≤ gv; omega) _, h.hh.other (by omega) _ _, h.hr.other (by omega) _ _, h.hm.other (by omega) _ _, h.hi.other (by omega) _ _, h.hv.set _ _, ne.1, ne.2.1, by simpa using ne.2.2⟩
theorem PB.setH (h : PB n gi gv w hL mL vL wr) (i v : Nat) : PB n gi gv w (hL.set i v) mL vL (wr.setCell ⟨n, i, none⟩ (.int .i64 (v : Int))) := by
  have ne := h.ne
  exact ⟨h.old.setCell (p := ⟨n, i, none⟩) (Nat.le_refl n) _, h.hh.set _ _, h.hr.other (by omega) _ _, h.hm.other (by omega) _ _, h.hi.other (by omega) _ _, h.hv.other (by omega) _ _, ne.1, ne.2.1, by simpa using ne.2.2⟩
theorem PB.row (h : PB n gi gv w hL mL vL wr) (M : List Nat) : PB n gi gv w hL mL M (wr.setRow gv (VN .i64 M)) := by
  have ne := h.ne
  have b := but_setRow wr gv (VN .i64 M)
  exact ⟨h.old.trans (b.below (fun k hk => by omega)), (b.block _ (by omega)).trans h.hh, (b.block _ (by omega)).trans h.hr, (b.block _ (by omega)).trans h.hm, (b.block _ (by omega)).trans h.hi, setRow_heap _ _ _ _ _ _ h.hv, ne.1, ne.2.1, by rw [b.size]; exact ne.2.2⟩
theorem PB.drew (h : PB n gi gv w hL mL vL wr) : PB n gi gv w hL mL vL wr.drew := ⟨h.old.drew, h.hh, h.hr, h.hm, h.hi, h.hv, h.ne⟩
end
/-- the first three of them -/
structure PA (n : Nat) (w : World) (hL mL : List Nat) (wr : World) : Prop where
  old : Below n w wr
  hh : RI wr n hL 78
  hr : RI wr (n + 1) z8n 78
  hm : RI wr (n + 2) mL 95
  sz : n + 3 ≤ wr.heap.size
theorem PA.setM {n : Nat} {w wr : World} {hL mL : List Nat} (h : PA n w hL mL wr) (i v : Nat) : PA n w hL (mL.set i v) (wr.setCell ⟨n + 2, i, none⟩ (.int .i64 (v : Int))) :=
  ⟨h.old.setCell (p := ⟨n + 2, i, none⟩) (by show n ≤ n + 2; omega) _, h.hh.other (by omega) _ _, h.hr.other (by omega) _ _, h.hm.set _ _, by simpa using h.sz⟩
theorem PA.below {n : Nat} {w wr w' : World} {hL mL : List Nat} (h : PA n w hL mL wr) (hb : Below wr.heap.size wr w') : PA n w hL mL w' := by
  have sz := h.sz
  exact ⟨h.old.trans (hb.mono (by omega)), (hb.block _ (by omega)).trans h.hh, (hb.block _ (by omega)).trans h.hr, (hb.block _ (by omega)).trans h.hm, Nat.le_trans sz hb.size⟩
theorem pa_start (w : World) (h : List Nat) : PA w.heap.size w h z16n (((w.alloc (.cells (VN .i64 h) 78)).alloc (.cells (VN .i64 z8n) 78)).alloc (.cells (VN .i64 z16n) 95)) := by
  refine ⟨(((Below.refl _ _).alloc (Nat.le_refl _) _).alloc (by simp) _).alloc (by simp; omega) _, ?_, ?_, ?_, by simp [size_alloc]⟩
  all_goals simp only [RI, heap_alloc_any, size_alloc]
  · rw [if_neg (by omega), if_neg (by omega), if_pos trivial]
  · rw [if_neg (by omega), if_pos trivial]
  · rw [if_pos trivial]
set_option maxRecDepth 100000 in
theorem rbegin (w : World) : Calls Tryd.prog 32 #[] w fun e w' => e = .returned (.agg (VN .i64 iv)) ∧ Below w.heap.size w w' := by
  go_enter Tryd.func32, Tryd.ntmps32
  go_wp2
  refine bodyPost_ret (v := .agg (VN .i64 iv)) ?_ rfl ⟨rfl, (Below.refl _ _).alloc (Nat.le_refl _) _⟩
  exact results_cell_row (P := Tryd.prog) (fn := Tryd.f32) (p := 0) (ty := 78) rfl _ _ w.heap.size 78 (VN .i64 iv) (0, 0) _ rfl (heap_alloc_new w _) Tryd.underlying78 rfl info8i
end Go.Proofs.YtfkbgodfcnmepaaDoor
namespace Go.Proofs.YtfkbgodfcnmepaaDoor
set_option linter.unusedSimpArgs false
set_option linter.unusedVariables false
open Go.ChangeShapes Go.WideShapes Go.ChangeAt Go.RowKit Go.Pin Go.Str Go.Dig
/-- bytes that are read, in every later world -/
def Rdb (n : Nat) (w : World) (a : Option Addr) (D : List Int) : Prop := ∀ i, i < D.length → ∃ b o, a = some ⟨b, o, none⟩ ∧ ∀ Y, Below n w Y → Y.cell? ⟨b, o + i, none⟩ = some (.int .u8 (D.getD i 0))
theorem pow256 (x k : Nat) (hx : x < 256) (hk : k ≤ 3) : x * 256 ^ k < 4294967296 ∧ 0 < 256 ^ k := by
  refine ⟨?_, Nat.pow_pos (by decide)⟩
  have := Nat.pow_le_pow_right (n := 256) (by decide) hk
  have h3 : (256 : Nat) ^ 3 = 16777216 := rfl
  have := Nat.mul_le_mul (Nat.le_of_lt_succ (show x < 255 + 1 by omega)) (show 256 ^ k ≤ 16777216 by omega)
  omega
set_option maxRecDepth 100000 in
set_option maxHeartbeats 16000000 in
theorem rpress (h : List Nat) (hh : S8 h) (D : List Int) (hD : Byb D) (a : Option Addr) (len cap : Nat) (hlen : D.length = len) (h64 : len ≤ 64) (count : Nat) (hcount : count < 9223372036854775808) (last : Bool) (mk : Nat) (hmk : mk < 4294967296 ∧ (last = true → mk = 4294967295) ∧ (last = false → mk = 0)) (w : World) (hR : Rdb w.heap.size w a D) :
    Calls Tryd.prog 33 #[.agg (VN .i64 h), .slice a len cap, .int .i64 (count : Int), .bool last] w fun e w' => e = .returned (.agg (VN .i64 (prs h D count mk))) ∧ Below w.heap.size w w' := by
  have hst := pa_start w h
  obtain ⟨n, hn⟩ : ∃ n, w.heap.size = n := ⟨_, rfl⟩
  obtain ⟨W0, hW0⟩ : ∃ W, ((w.alloc (.cells (VN .i64 h) 78)).alloc (.cells (VN .i64 z8n) 78)).alloc (.cells (VN .i64 z16n) 95) = W := ⟨_, rfl⟩
  have hW0' : ((w.alloc (.cells (VN .i64 h) 78)).alloc (.cells #[.int .i64 0, .int .i64 0, .int .i64 0, .int .i64 0, .int .i64 0, .int .i64 0, .int .i64 0, .int .i64 0] 78)).alloc (.cells #[.int .i64 0, .int .i64 0, .int .i64 0, .int .i64 0, .int .i64 0, .int .i64 0, .int .i64 0, .int .i64 0, .int .i64 0, .int .i64 0, .int .i64 0, .int .i64 0, .int .i64 0, .int .i64 0, .int .i64 0, .int .i64 0] 95) = W0 := hW0
  rw [hW0, hn, ← mpT_zero D] at hst
  have HST : Hid (PA n w h (mpT D 0) W0) := hst
  rw [hn] at hR ⊢
  have HR : Hid (Rdb n w a D ∧ D.length = len ∧ len ≤ 64 ∧ Byb D ∧ S8 h ∧ count < 9223372036854775808) := ⟨hR, hlen, h64, hD, hh, hcount⟩
  have HI8 : Hid ((Tryd.prog.info? 78).map (·.size) = some (VN .i64 h).size) := by
    have : (Tryd.prog.info? 78).map (·.size) = some (VN .i64 h).size := by rw [VN_size, hh.len]; exact info8i
    exact this
  have HMK : Hid (mk < 4294967296 ∧ (last = true → mk = 4294967295) ∧ (last = false → mk = 0)) := hmk
  clear hst hW0 hR hlen h64 hD hh hcount hmk
  go_enter Tryd.func33, Tryd.ntmps33
  go_wp2
  go_loopw [10, 11, 12] (fun v _ _ w' => ∃ i : Nat, i ≤ len ∧ v = .int .i64 (i : Int) ∧ PA n w h (mpT D i) w') (fun v _ _ _ => len - (intOf v).toNat)
  case atStart => exact ⟨0, Nat.zero_le _, rfl, HST.out⟩
  case round =>
    clear HST hW0'
    obtain ⟨i, hi, rfl, hp⟩ := hrel
    have hl64 := HR.out.2.2.1
    by_cases hlt : i < len
    · have b1 : (i : Int) < (len : Int) := by omega
      have b2 : (i : Int) < 64 := by omega
      obtain ⟨bb, oo, rfl, hcc⟩ := HR.out.1 i (by rw [HR.out.2.1]; exact hlt)
      have c1 := hcc wr hp.old
      have hx := bn_lt HR.out.2.2.2.1 i
      rw [bn_int HR.out.2.2.2.1] at c1
      have hw := wpT_lt HR.out.2.2.2.1 i (i / 4)
      have hp1 := hp.setM (i / 4) (wpT D i (i / 4) + bn D i * 256 ^ (i % 4))
      rw [mpT_set D (by omega)] at hp1
      have cm := hp.hm.cell (i := i / 4) (by rw [mpT_len]; omega)
      rw [mpT_at D i (by omega)] at cm
      have f1 := fun k => hp.hm.froz k
      obtain ⟨x, hxe⟩ : ∃ x, bn D i = x := ⟨_, rfl⟩
      obtain ⟨m4, hm4⟩ : ∃ m, i % 4 = m := ⟨_, rfl⟩
      obtain ⟨q4, hq4⟩ : ∃ m, i / 4 = m := ⟨_, rfl⟩
      have d1 : (i : Int).tdiv 4 = (q4 : Int) := by rw [← hq4]; rfl
      have d2 : (i : Int) / 4 = (q4 : Int) := by omega
      have d3 : (i : Int).tmod 4 = (m4 : Int) := by rw [← hm4]; rfl
      have d4 : (i : Int) % 4 = (m4 : Int) := by omega
      rw [hxe] at c1 hx hp1
      rw [hm4] at hp1
      rw [hq4] at hp1 hw cm
      obtain ⟨y, hy⟩ : ∃ y, wpT D i q4 = y := ⟨_, rfl⟩
      rw [hy] at hp1 hw cm
      obtain ⟨z, hz⟩ : ∃ z, y + x * 256 ^ m4 = z := ⟨_, rfl⟩
      rw [hz] at hp1
      obtain ⟨W1, hW1⟩ : ∃ V, wr.setCell ⟨n + 2, q4, none⟩ (.int .i64 (z : Int)) = V := ⟨_, rfl⟩
      rw [hW1] at hp1
      have HP1 : Hid (PA n w h (mpT D (i + 1)) W1) := hp1
      have HZ : Hid (y + x * 256 ^ m4 = z) := hz
      have hm3 : m4 ≤ 3 := by omega
      have hq16 : q4 < 16 := by omega
      have HQ : Hid (i < len ∧ len ≤ 64) := ⟨hlt, hl64⟩
      clear hp hp1 hcc hxe hm4 hq4 hy hz
      go_wp2
      go_loopw [11, 12] (fun u v w' => ∃ k : Nat, k ≤ m4 ∧ u = .int .i64 ((x * 256 ^ k : Nat) : Int) ∧ v = .int .i64 (k : Int) ∧ w' = wr) (fun _ v _ => m4 - (intOf v).toNat)
      case atStart => exact ⟨0, by omega, by simp, rfl, rfl⟩
      case round =>
        obtain ⟨k, hk, rfl, rfl, hw'⟩ := hrel
        obtain rfl := hw'
        have hpw := pow256 x k hx (by omega)
        by_cases hkt : k < m4
        · have b3 : (k : Int) < (m4 : Int) := by omega
          obtain ⟨u, hu⟩ : ∃ u, x * 256 ^ k = u := ⟨_, rfl⟩
          rw [hu] at hpw ⊢
          have HU : Hid (x * 256 ^ k = u) := hu
          have hu1 := hpw.1
          clear hpw hu
          go_wp2
          go_roundw
          case rel => exact ⟨k + 1, by omega, by rw [Nat.pow_succ, ← Nat.mul_assoc, HU.out]; exact congrArg (Value.int .i64) (by omega), by go_num, trivial⟩
          case measure => simp [intOf]; omega
        · have b3 : ¬ (k : Int) < (m4 : Int) := by omega
          have hk4 : k = m4 := by omega
          subst hk4
          obtain ⟨u, hu⟩ : ∃ u, x * 256 ^ k = u := ⟨_, rfl⟩
          rw [hu] at hpw HZ ⊢
          have hu1 := hpw.1
          have hzz : (y : Int) + (u : Int) = (z : Int) := by have := HZ.out; omega
          clear hpw hu
          go_wp2
          go_roundw
          case rel => exact ⟨i + 1, HQ.out.1, by go_num, HP1.out⟩
          case measure => simp [intOf]; omega
    · have hie : i = D.length := by rw [HR.out.2.1]; omega
      have b1 : ¬ (i : Int) < (len : Int) := by omega
      have b1' : decide ((i : Int) < (len : Int)) = false := decide_eq_false b1
      rw [hie, mpT_full HR.out.2.2.2.1] at hp
      have HP : Hid (PA n w h (wds D) wr) := hp
      have CB : Hid (Calls Tryd.prog 32 #[] wr fun e w' => e = .returned (.agg (VN .i64 iv)) ∧ Below wr.heap.size wr w') := rbegin wr
      have HIV : Hid ((Tryd.prog.info? 78).map (·.size) = some (VN .i64 iv).size) := info8i
      have HSV : Hid ((VN .i64 z8n).size = (VN .i64 iv).size) := rfl
      clear hp hie hl64 hi hlt
      go_upto_region 12 with (first | (go_at_call 32; refine Calls.mono CB.out ?_; rintro e W1 ⟨rfl, hb1⟩; have HB1 : Hid (PA n w h (wds D) W1) := HP.out.below hb1; clear hb1 CB) | (with_reducible refine at_list ?_; first | (refine hold_store 78 (.tmp 13) (.tmp 54) rfl ?_)))
      refine store_row_new rfl 78 (.tmp 13) (.tmp 54) rfl W1.heap.size (VN .i64 iv) rfl rfl rfl 78 (VN .i64 z8n) HIV.out HSV.out (VN_one _ _) ?_
      have hb2 : Below W1.heap.size W1 ((W1.alloc (.cells (VN .i64 iv) 78)).alloc (.cells (VN .i64 z16n) 95)) := ((Below.refl _ _).alloc (Nat.le_refl _) _).alloc (by simp) _
      have hpa2 := HB1.out.below hb2
      have hpb : PB n W1.heap.size (W1.heap.size + 1) w h (wds D) z16n ((W1.alloc (.cells (VN .i64 iv) 78)).alloc (.cells (VN .i64 z16n) 95)) := by
        refine ⟨hpa2.old, hpa2.hh, hpa2.hr, hpa2.hm, ?_, ?_, by have := HB1.out.sz; omega, by omega, by simp [size_alloc]⟩
        · simp only [RI, heap_alloc_any, size_alloc]
          rw [if_neg (by omega), if_pos trivial]
        · simp only [RI, heap_alloc_any, size_alloc]
          rw [if_pos trivial]
      obtain ⟨gi, hgi⟩ : ∃ g, W1.heap.size = g := ⟨_, rfl⟩
      obtain ⟨V1, hV1⟩ : ∃ V, W1.alloc (.cells (VN .i64 iv) 78) = V := ⟨_, rfl⟩
      obtain ⟨W2, hW2⟩ : ∃ V, V1.alloc (.cells (VN .i64 z16n) 95) = V := ⟨_, rfl⟩
      have hsV : V1.heap.size = gi + 1 := by rw [← hV1, size_alloc, hgi]
      rw [hV1, hW2, hgi] at hpb
      rw [hV1, hgi]
      have hW2' : V1.alloc (.cells #[.int .i64 0, .int .i64 0, .int .i64 0, .int .i64 0, .int .i64 0, .int .i64 0, .int .i64 0, .int .i64 0, .int .i64 0, .int .i64 0, .int .i64 0, .int .i64 0, .int .i64 0, .int .i64 0, .int .i64 0, .int .i64 0] 95) = W2 := hW2
      obtain ⟨gv, hgv⟩ : ∃ g, gi + 1 = g := ⟨_, rfl⟩
      rw [hgv] at hpb hsV
      rw [← vbT_zero h] at hpb
      have HPB : Hid (PB n gi gv w h (wds D) (vbT h 0) W2) := hpb
      clear hb2 hpa2 hpb hgi hV1 hgv HB1 HP HIV HSV hW2
      go_wp2
      clear hW2' hsV
      go_loopw [15] (fun v w' => ∃ i : Nat, i ≤ 8 ∧ v = .int .i64 (i : Int) ∧ PB n gi gv w h (wds D) (vbT h i) w') (fun v _ => 8 - (intOf v).toNat)
      case atStart => exact ⟨0, Nat.zero_le _, rfl, HPB.out⟩
      case round =>
        clear HPB
        obtain ⟨i, hi, rfl, hp⟩ := hrel
        by_cases hlt : i < 8
        · have b1 : (i : Int) < 8 := by omega
          have c1 := hp.hh.cell (i := i) (by rw [HR.out.2.2.2.2.1.len]; exact hlt)
          have c2 := hp.hi.cell (i := i) hlt
          have c3 := hp.hv.cell (i := i) (by rw [vbT_len]; omega)
          have f1 := fun k => hp.hv.froz k
          have hp1 := hp.setV i (h.getD i 0)
          obtain ⟨x, hx⟩ : ∃ x, h.getD i 0 = x := ⟨_, rfl⟩
          obtain ⟨y, hy⟩ : ∃ y, iv.getD i 0 = y := ⟨_, rfl⟩
          rw [hx] at c1 hp1
          rw [hy] at c2
          obtain ⟨W4, hW4⟩ : ∃ V, wr.setCell ⟨gv, i, none⟩ (.int .i64 (x : Int)) = V := ⟨_, rfl⟩
          rw [hW4] at hp1
          have c4 := hp1.hi.cell (i := i) hlt
          have c5 := hp1.hv.cell (i := 8 + i) (by rw [List.length_set, vbT_len]; omega)
          have f2 := fun k => hp1.hv.froz k
          have hp2 := hp1.setV (8 + i) y
          rw [← hx, ← hy, vbT_set h hlt] at hp2
          rw [hy] at c4 hp2
          obtain ⟨W5, hW5⟩ : ∃ V, W4.setCell ⟨gv, 8 + i, none⟩ (.int .i64 (y : Int)) = V := ⟨_, rfl⟩
          rw [hW5] at hp2
          have HP2 : Hid (PB n gi gv w h (wds D) (vbT h (i + 1)) W5) := hp2
          clear hp hp1 hp2 hx hy
          go_wp2
          go_roundw
          case rel => exact ⟨i + 1, hlt, by go_num, HP2.out⟩
          case measure => simp [intOf]; omega
        · have hi' : i = 8 := by omega
          have b1 : ¬ (i : Int) < 8 := by omega
          rw [hi'] at hp
          clear hi' hlt hi
          have hcnt := HR.out.2.2.2.2.2
          have c12 := hp.hv.cell (i := 12) (by rw [vbT_len]; decide)
          have c13 := hp.hv.cell (i := 13) (by rw [vbT_len]; decide)
          have c14 := hp.hv.cell (i := 14) (by rw [vbT_len]; decide)
          rw [vbT_at _ _ (by decide), if_neg (by decide), if_pos (by decide)] at c12 c13 c14
          have f0 := fun k => hp.hv.froz k
          have hx0 := i64_xor_nat 1359893119 (count % 4294967296) (by decide) (Nat.mod_lt _ (by decide))
          have hx1 := i64_xor_nat 2600822924 (count / 4294967296 % 4294967296) (by decide) (Nat.mod_lt _ (by decide))
          have hx2 := i64_xor_nat 528734635 4294967295 (by decide) (by decide)
          have hp2 := ((hp.setV 12 (1359893119 ^^^ (count % 4294967296))).setV 13 (2600822924 ^^^ (count / 4294967296 % 4294967296)))
          have hp3 := hp2.setV 14 (528734635 ^^^ 4294967295)
          have e0 : (((h ++ iv).set 12 (1359893119 ^^^ (count % 4294967296))).set 13 (2600822924 ^^^ (count / 4294967296 % 4294967296))) = pv h count 0 := by
            rw [← vbl_pv HR.out.2.2.2.2.1.len count 0]
            rw [List.set_append_right _ _ (by rw [HR.out.2.2.2.2.1.len]; decide), List.set_append_right _ _ (by rw [HR.out.2.2.2.2.1.len]; decide), List.set_append_right _ _ (by rw [HR.out.2.2.2.2.1.len]; decide), HR.out.2.2.2.2.1.len]
            rfl
          rw [vbT_full HR.out.2.2.2.2.1.len] at hp2 hp3
          rw [vbl_pv HR.out.2.2.2.2.1.len] at hp3
          rw [e0] at hp2
          have cq : (count : Int).tdiv 4294967296 = ((count / 4294967296 : Nat) : Int) := rfl
          have cq2 : (count : Int) / 4294967296 = ((count / 4294967296 : Nat) : Int) := by omega
          have cm : (count : Int) % 4294967296 = ((count % 4294967296 : Nat) : Int) := by omega
          have cm2 : (((count / 4294967296 : Nat) : Int)) % 4294967296 = ((count / 4294967296 % 4294967296 : Nat) : Int) := by omega
          obtain ⟨d0, hd0⟩ : ∃ d, count % 4294967296 = d := ⟨_, rfl⟩
          obtain ⟨d1, hd1⟩ : ∃ d, count / 4294967296 % 4294967296 = d := ⟨_, rfl⟩
          obtain ⟨d2, hd2⟩ : ∃ d, count / 4294967296 = d := ⟨_, rfl⟩
          rw [hd0] at hx0 hp2 hp3 cm
          rw [hd1] at hx1 hp2 hp3 cm2
          rw [hd2] at cq cq2 cm2
          obtain ⟨y0, hy0⟩ : ∃ y, 1359893119 ^^^ d0 = y := ⟨_, rfl⟩
          obtain ⟨y1, hy1⟩ : ∃ y, 2600822924 ^^^ d1 = y := ⟨_, rfl⟩
          obtain ⟨y2, hy2⟩ : ∃ y, 528734635 ^^^ 4294967295 = y := ⟨_, rfl⟩
          rw [hy0] at hx0 hp2 hp3
          rw [hy1] at hx1 hp2 hp3
          rw [hy2] at hx2 hp3
          have e12 : wr.cell? ⟨gv, 12, none⟩ = some (.int .i64 1359893119) := c12
          have e13 : wr.cell? ⟨gv, 13, none⟩ = some (.int .i64 2600822924) := c13
          have e14 : wr.cell? ⟨gv, 14, none⟩ = some (.int .i64 528734635) := c14
          have hx0' : bits .xor .i64 1359893119 (d0 : Int) = (y0 : Int) := hx0
          have hx1' : bits .xor .i64 2600822924 (d1 : Int) = (y1 : Int) := hx1
          have hx2' : bits .xor .i64 528734635 4294967295 = (y2 : Int) := hx2
          obtain ⟨W4, hW4⟩ : ∃ V, wr.setCell ⟨gv, 12, none⟩ (.int .i64 (y0 : Int)) = V := ⟨_, rfl⟩
          have s13 : W4.cell? ⟨gv, 13, none⟩ = some (.int .i64 2600822924) := by rw [← hW4]; exact cs_other e13 _ (by decide)
          have s14 : W4.cell? ⟨gv, 14, none⟩ = some (.int .i64 528734635) := by rw [← hW4]; exact cs_other e14 _ (by decide)
          have f2 : ∀ k, W4.frozen? ⟨gv, k, none⟩ = false := fun k => by rw [← hW4, World.frozen?_setCell]; exact f0 k
          obtain ⟨W5, hW5⟩ : ∃ V, W4.setCell ⟨gv, 13, none⟩ (.int .i64 (y1 : Int)) = V := ⟨_, rfl⟩
          have t14 : W5.cell? ⟨gv, 14, none⟩ = some (.int .i64 528734635) := by rw [← hW5]; exact cs_other s14 _ (by decide)
          have f3 : ∀ k, W5.frozen? ⟨gv, k, none⟩ = false := fun k => by rw [← hW5, World.frozen?_setCell]; exact f2 k
          obtain ⟨W6, hW6⟩ : ∃ V, W5.setCell ⟨gv, 14, none⟩ (.int .i64 (y2 : Int)) = V := ⟨_, rfl⟩
          rw [hW4, hW5] at hp2 hp3
          rw [hW6] at hp3
          have HP5 : Hid (PB n gi gv w h (wds D) (pv h count 0) W5) := hp2
          have HP6 : Hid (PB n gi gv w h (wds D) (pv h count 4294967295) W6) := hp3
          clear hp hp2 hp3 c12 c13 c14 hx0 hx1 hx2 hy0 hy1 hy2 hd0 hd1 hd2 s14 e14 e0
          go_upto_if 83 with fail
          go_cut [] (fun wx => PB n gi gv w h (wds D) (pv h count mk) wx)
          case first =>
            cases last
            · go_wp2
              go_meet
              rw [HMK.out.2.2 trivial]
              exact HP5.out
            · go_wp2
              go_meet
              rw [HMK.out.2.1 trivial]
              exact HP6.out
          have HPC : Hid (PB n gi gv w h (wds D) (pv h count mk) wc) := hcut
          clear hcut HP5 HP6 hW4 hW5 hW6 e12 e13 s13 t14 f0 f2 f3 cq cq2 cm cm2 hx0' hx1' hx2' hcnt
          go_wp2
          go_loopw [16] (fun v w' => ∃ r : Nat, r ≤ 10 ∧ v = .int .i64 (r : Int) ∧ PB n gi gv w h (wds D) (rds (wds D) (pv h count mk) r) w') (fun v _ => 10 - (intOf v).toNat)
          case atStart => exact ⟨0, Nat.zero_le _, rfl, HPC.out⟩
          case round =>
            clear HPC
            obtain ⟨r, hr, rfl, hp⟩ := hrel
            by_cases hrt : r < 10
            · have b1 : (r : Int) < 10 := by omega
              have CO : Hid (Calls Tryd.prog 44 #[.int .i64 (r : Int)] wr fun e w' => e = .returned (.string (oS r)) ∧ PB n gi gv w h (wds D) (rnk (ord r) (wds D) (rds (wds D) (pv h count mk) r) 0) w') := (rorder r hrt wr).mono (fun e w' hh => ⟨hh.1, hp.below hh.2⟩)
              have HSV : Hid (S16 (rds (wds D) (pv h count mk) r)) := ⟨by rw [rds_len, pv_len HR.out.2.2.2.2.1], rds_w (pv_w HR.out.2.2.2.2.1 count HMK.out.1) _ _⟩
              have HNR : Hid (rds (wds D) (pv h count mk) (r + 1) = rnk (ord r) (wds D) (rds (wds D) (pv h count mk) r) 8) := rfl
              obtain ⟨V0, hV0⟩ : ∃ V0, (rds (wds D) (pv h count mk) r) = V0 := ⟨_, rfl⟩
              rw [hV0] at CO HSV HNR
              have HRT : Hid (r < 10) := hrt
              clear hp hV0
              go_upto_region 26 with (first | (go_at_call 44; refine Calls.mono CO.out ?_; rintro e W7 ⟨rfl, h7⟩; have H7 : Hid (PB n gi gv w h (wds D) (rnk (ord r) (wds D) V0 0) W7) := h7; clear h7 CO))
              go_wp2
              go_loopw [18] (fun v w' => ∃ k : Nat, k ≤ 8 ∧ v = .int .i64 (k : Int) ∧ PB n gi gv w h (wds D) (rnk (ord r) (wds D) V0 k) w') (fun v _ => 8 - (intOf v).toNat)
              case atStart => exact ⟨0, Nat.zero_le _, rfl, H7.out⟩
              case round =>
                clear H7
                obtain ⟨k, hk, rfl, hp⟩ := hrel
                by_cases hkt : k < 8
                · have b2 : (k : Int) < 8 := by omega
                  have o1 := ord_lt r HRT.out (2 * k) (by omega)
                  have o2 := ord_lt r HRT.out (2 * k + 1) (by omega)
                  have i1 := run_ord r HRT.out (2 * k) (by omega)
                  have i2 := run_ord r HRT.out (2 * k + 1) (by omega)
                  rw [show ((2 * k : Nat) : Int) = 2 * (k : Int) by omega] at i1
                  rw [show ((2 * k + 1 : Nat) : Int) = 2 * (k : Int) + 1 by omega] at i2
                  have n1 := rnumber _ o1
                  have n2 := rnumber _ o2
                  have m1 := hp.hm.cell (i := (ord r).getD (2 * k) 0) (by rw [wds_len]; exact o1)
                  have m2 := hp.hm.cell (i := (ord r).getD (2 * k + 1) 0) (by rw [wds_len]; exact o2)
                  have x1 := (wds_w HR.out.2.2.2.1).at ((ord r).getD (2 * k) 0)
                  have x2 := (wds_w HR.out.2.2.2.1).at ((ord r).getD (2 * k + 1) 0)
                  have hnx : rnk (ord r) (wds D) V0 (k + 1) = stp (ord r) (wds D) (rnk (ord r) (wds D) V0 k) k := rfl
                  have hSL : S16 (rnk (ord r) (wds D) V0 k) := ⟨by rw [rnk_len]; exact HSV.out.len, rnk_w HSV.out.bd _ _ _⟩
                  unfold stp at hnx
                  obtain ⟨L, hL⟩ : ∃ L, rnk (ord r) (wds D) V0 k = L := ⟨_, rfl⟩
                  obtain ⟨x, hx⟩ : ∃ x, (wds D).getD ((ord r).getD (2 * k) 0) 0 = x := ⟨_, rfl⟩
                  obtain ⟨y, hy⟩ : ∃ y, (wds D).getD ((ord r).getD (2 * k + 1) 0) 0 = y := ⟨_, rfl⟩
                  rw [hx] at m1 x1
                  rw [hy] at m2 x2
                  rw [hL, hx, hy] at hnx
                  rw [hL] at hp hSL
                  obtain ⟨p1, hp1⟩ : ∃ p, (ord r).getD (2 * k) 0 = p := ⟨_, rfl⟩
                  obtain ⟨p2, hp2⟩ : ∃ p, (ord r).getD (2 * k + 1) 0 = p := ⟨_, rfl⟩
                  rw [hp1] at o1 i1 n1 m1
                  rw [hp2] at o2 i2 n2 m2
                  obtain ⟨t1, ht1⟩ : ∃ t, hexb p1 = t := ⟨_, rfl⟩
                  obtain ⟨t2, ht2⟩ : ∃ t, hexb p2 = t := ⟨_, rfl⟩
                  rw [ht1] at i1 n1
                  rw [ht2] at i2 n2
                  have N1 : Hid _ := n1
                  have N2 : Hid _ := n2
                  have HPK : Hid (PB n gi gv w h (wds D) L wr) := hp
                  have HIL : Hid ((Tryd.prog.info? 95).map (·.size) = some (VN .i64 L).size) := info16i hSL.len
                  have q1 : (p1 : Int) < 16 := by omega
                  have q2 : (p2 : Int) < 16 := by omega
                  clear hp hL hx hy hp1 hp2 ht1 ht2 n1 n2
                  go_upto_region 30 with (first | (go_at_call 45; refine Calls.mono (N1.out _) ?_; rintro e wn ⟨rfl, hw⟩; obtain rfl := hw; clear N1))
                  clear i1 m1
                  go_upto_region 31 with (first | (go_at_call 45; refine Calls.mono (N2.out _) ?_; rintro e wn ⟨rfl, hw⟩; obtain rfl := hw; clear N2))
                  clear i2 m2
                  by_cases hk4 : k < 4
                  · have b3 : (k : Int) < 4 := by omega
                    rw [if_pos hk4] at hnx
                    have hcm := rmixing k (4 + k) (8 + k) (12 + k) x y x1 x2 L wn hSL.len hSL.bd (by omega) (by omega) (by omega) (by omega) (by omega) (by omega) (by omega) (by omega) (by omega) (by omega)
                    rw [show ((4 + k : Nat) : Int) = 4 + (k : Int) by omega, show ((8 + k : Nat) : Int) = 8 + (k : Int) by omega, show ((12 + k : Nat) : Int) = 12 + (k : Int) by omega] at hcm
                    obtain ⟨M, hM⟩ : ∃ M, mat L k (4 + k) (8 + k) (12 + k) x y = M := ⟨_, rfl⟩
                    rw [hM] at hcm hnx
                    have HNX : Hid (rnk (ord r) (wds D) V0 (k + 1) = M) := hnx
                    have hML : M.length = 16 := by rw [← hM, mat_len]; exact hSL.len
                    have HIM : Hid ((Tryd.prog.info? 95).map (·.size) = some (VN .i64 M).size) := info16i hML
                    have HSM : Hid ((VN .i64 L).size = (VN .i64 M).size) := by
                      have : (VN .i64 L).size = (VN .i64 M).size := by rw [VN_size, VN_size, hML, hSL.len]
                      exact this
                    have CM : Hid (Calls Tryd.prog 46 #[.agg (VN .i64 L), .int .i64 (k : Int), .int .i64 (4 + (k : Int)), .int .i64 (8 + (k : Int)), .int .i64 (12 + (k : Int)), .int .i64 (x : Int), .int .i64 (y : Int)] wn fun e w' => e = .returned (.agg (VN .i64 M)) ∧ Below wn.heap.size wn w') := hcm
                    clear hcm hM hnx hML hSL x1 x2 o1 o2
                    go_wp2_with (first | (go_at_call 46; refine Calls.mono CM.out ?_; rintro e W9 ⟨rfl, hb9⟩; have HP9 : Hid (PB n gi gv w h (wds D) L W9) := HPK.out.below hb9; clear hb9 CM) | (with_reducible refine at_list ?_; first | (refine wpList_load_row rfl 95 (.tmp 14) rfl gv rfl 95 (VN .i64 L) (0, 0) _ HPK.out.hv Tryd.underlying95 rfl HIL.out ?_) | (refine wpList_store_row rfl 95 (.tmp 14) (.tmp 125) rfl gv (VN .i64 M) rfl rfl 95 (VN .i64 L) HP9.out.hv HIM.out HSM.out (VN_one _ _) ?_)))
                    go_roundw
                    case rel => exact ⟨k + 1, hkt, by go_num, by rw [HNX.out]; exact HP9.out.row M⟩
                    case measure => simp [intOf]; omega
                  · have b3 : ¬ (k : Int) < 4 := by omega
                    rw [if_neg hk4] at hnx
                    have hcm := rmixing (k - 4) (4 + (k - 3) % 4) (8 + (k - 2) % 4) (12 + (k - 1) % 4) x y x1 x2 L wn hSL.len hSL.bd (by omega) (by omega) (by omega) (by omega) (by omega) (by omega) (by omega) (by omega) (by omega) (by omega)
                    have s4 : (k : Int) - 4 = ((k - 4 : Nat) : Int) := by omega
                    have s3 : (k : Int) - 3 = ((k - 3 : Nat) : Int) := by omega
                    have s2 : (k : Int) - 2 = ((k - 2 : Nat) : Int) := by omega
                    have s1 : (k : Int) - 1 = ((k - 1 : Nat) : Int) := by omega
                    have r3 : ((k - 3 : Nat) : Int) % 4 = (((k - 3) % 4 : Nat) : Int) := by omega
                    have r2 : ((k - 2 : Nat) : Int) % 4 = (((k - 2) % 4 : Nat) : Int) := by omega
                    have r1 : ((k - 1 : Nat) : Int) % 4 = (((k - 1) % 4 : Nat) : Int) := by omega
                    have u3 : Int.tmod ((k - 3 : Nat) : Int) 4 = (((k - 3) % 4 : Nat) : Int) := rfl
                    have u2 : Int.tmod ((k - 2 : Nat) : Int) 4 = (((k - 2) % 4 : Nat) : Int) := rfl
                    have u1 : Int.tmod ((k - 1 : Nat) : Int) 4 = (((k - 1) % 4 : Nat) : Int) := rfl
                    obtain ⟨j0, hj0⟩ : ∃ j, k - 4 = j := ⟨_, rfl⟩
                    obtain ⟨j3, hj3⟩ : ∃ j, (k - 3) % 4 = j := ⟨_, rfl⟩
                    obtain ⟨j2, hj2⟩ : ∃ j, (k - 2) % 4 = j := ⟨_, rfl⟩
                    obtain ⟨j1, hj1⟩ : ∃ j, (k - 1) % 4 = j := ⟨_, rfl⟩
                    rw [hj0] at hcm s4 hnx
                    rw [hj3] at hcm r3 u3 hnx
                    rw [hj2] at hcm r2 u2 hnx
                    rw [hj1] at hcm r1 u1 hnx
                    obtain ⟨w3, hw3⟩ : ∃ j, k - 3 = j := ⟨_, rfl⟩
                    obtain ⟨w2, hw2⟩ : ∃ j, k - 2 = j := ⟨_, rfl⟩
                    obtain ⟨w1, hw1⟩ : ∃ j, k - 1 = j := ⟨_, rfl⟩
                    rw [hw3] at s3 r3 u3
                    rw [hw2] at s2 r2 u2
                    rw [hw1] at s1 r1 u1
                    have g3 : j3 < 4 := by omega
                    have g2 : j2 < 4 := by omega
                    have g1 : j1 < 4 := by omega
                    have v3 : w3 < 8 := by omega
                    have v2 : w2 < 8 := by omega
                    have v1 : w1 < 8 := by omega
                    rw [show ((4 + j3 : Nat) : Int) = 4 + (j3 : Int) by omega, show ((8 + j2 : Nat) : Int) = 8 + (j2 : Int) by omega, show ((12 + j1 : Nat) : Int) = 12 + (j1 : Int) by omega] at hcm
                    clear hj0 hj1 hj2 hj3 hw1 hw2 hw3
                    obtain ⟨M, hM⟩ : ∃ M, mat L j0 (4 + j3) (8 + j2) (12 + j1) x y = M := ⟨_, rfl⟩
                    rw [hM] at hcm hnx
                    have HNX : Hid (rnk (ord r) (wds D) V0 (k + 1) = M) := hnx
                    have hML : M.length = 16 := by rw [← hM, mat_len]; exact hSL.len
                    have HIM : Hid ((Tryd.prog.info? 95).map (·.size) = some (VN .i64 M).size) := info16i hML
                    have HSM : Hid ((VN .i64 L).size = (VN .i64 M).size) := by
                      have : (VN .i64 L).size = (VN .i64 M).size := by rw [VN_size, VN_size, hML, hSL.len]
                      exact this
                    have CM : Hid (Calls Tryd.prog 46 #[.agg (VN .i64 L), .int .i64 (j0 : Int), .int .i64 (4 + (j3 : Int)), .int .i64 (8 + (j2 : Int)), .int .i64 (12 + (j1 : Int)), .int .i64 (x : Int), .int .i64 (y : Int)] wn fun e w' => e = .returned (.agg (VN .i64 M)) ∧ Below wn.heap.size wn w') := hcm
                    clear hcm hM hnx hML hSL x1 x2 o1 o2
                    go_wp2_with (first | (go_at_call 46; refine Calls.mono CM.out ?_; rintro e W9 ⟨rfl, hb9⟩; have HP9 : Hid (PB n gi gv w h (wds D) L W9) := HPK.out.below hb9; clear hb9 CM) | (with_reducible refine at_list ?_; first | (refine wpList_load_row rfl 95 (.tmp 14) rfl gv rfl 95 (VN .i64 L) (0, 0) _ HPK.out.hv Tryd.underlying95 rfl HIL.out ?_) | (refine wpList_store_row rfl 95 (.tmp 14) (.tmp 143) rfl gv (VN .i64 M) rfl rfl 95 (VN .i64 L) HP9.out.hv HIM.out HSM.out (VN_one _ _) ?_)))
                    go_roundw
                    case rel => exact ⟨k + 1, hkt, by go_num, by rw [HNX.out]; exact HP9.out.row M⟩
                    case measure => simp [intOf]; omega
                · have hk8 : k = 8 := by omega
                  subst hk8
                  rw [← HNR.out] at hp
                  have HP8 : Hid (PB n gi gv w h (wds D) (rds (wds D) (pv h count mk) (r + 1)) wr) := hp
                  have hrt2 := HRT.out
                  clear hp
                  go_wp2
                  go_roundw
                  case rel => exact ⟨r + 1, hrt2, by go_num, HP8.out⟩
                  case measure => simp [intOf]; omega
            · have hr10 : r = 10 := by omega
              subst hr10
              obtain ⟨V, hV⟩ : ∃ V, rds (wds D) (pv h count mk) 10 = V := ⟨_, rfl⟩
              have HV : Hid (rds (wds D) (pv h count mk) 10 = V ∧ S16 V) := ⟨hV, by rw [← hV]; exact ⟨by rw [rds_len, pv_len HR.out.2.2.2.2.1], rds_w (pv_w HR.out.2.2.2.2.1 count HMK.out.1) _ _⟩⟩
              rw [hV] at hp
              have HP0 : Hid (PB n gi gv w (stl h V 0) (wds D) V wr) := by
                have : PB n gi gv w (stl h V 0) (wds D) V wr := by rw [stl_zero HR.out.2.2.2.2.1.len]; exact hp
                exact this
              clear hp hV
              go_wp2
              go_loopw [21] (fun v w' => ∃ i : Nat, i ≤ 8 ∧ v = .int .i64 (i : Int) ∧ PB n gi gv w (stl h V i) (wds D) V w') (fun v _ => 8 - (intOf v).toNat)
              case atStart => exact ⟨0, Nat.zero_le _, rfl, HP0.out⟩
              case round =>
                clear HP0
                obtain ⟨i, hi, rfl, hp⟩ := hrel
                by_cases hlt : i < 8
                · have b1 : (i : Int) < 8 := by omega
                  have c1 := hp.hh.cell (i := i) (by rw [stl_len]; exact hlt)
                  have c2 := hp.hv.cell (i := i) (by rw [HV.out.2.len]; omega)
                  have c3 := hp.hv.cell (i := 8 + i) (by rw [HV.out.2.len]; omega)
                  have f1 := fun k => hp.hh.froz k
                  rw [stl_at _ _ _ hlt, if_neg (by omega)] at c1
                  have r1 := HR.out.2.2.2.2.1.bd.at i
                  have r2 := HV.out.2.bd.at i
                  have r3 := HV.out.2.bd.at (8 + i)
                  have q1 := i64_xor_nat (h.getD i 0) (V.getD i 0) r1 r2
                  have q2 := i64_xor_nat (h.getD i 0 ^^^ V.getD i 0) (V.getD (8 + i) 0) (xor_lt r1 r2) r3
                  have hp1 := hp.setH i (h.getD i 0 ^^^ (V.getD i 0 ^^^ V.getD (i + 8) 0))
                  rw [stl_set h V hlt, ← Nat.xor_assoc, Nat.add_comm i 8] at hp1
                  obtain ⟨x1, hx1⟩ : ∃ x, h.getD i 0 = x := ⟨_, rfl⟩
                  obtain ⟨x2, hx2⟩ : ∃ x, V.getD i 0 = x := ⟨_, rfl⟩
                  obtain ⟨x3, hx3⟩ : ∃ x, V.getD (8 + i) 0 = x := ⟨_, rfl⟩
                  rw [hx1, hx2, hx3] at q2 hp1
                  rw [hx1, hx2] at q1
                  rw [hx1] at c1
                  rw [hx2] at c2
                  rw [hx3] at c3
                  obtain ⟨x4, hx4⟩ : ∃ x, x1 ^^^ x2 = x := ⟨_, rfl⟩
                  rw [hx4] at q1 q2 hp1
                  obtain ⟨x5, hx5⟩ : ∃ x, x4 ^^^ x3 = x := ⟨_, rfl⟩
                  rw [hx5] at q2 hp1
                  obtain ⟨W9, hW9⟩ : ∃ V, wr.setCell ⟨n, i, none⟩ (.int .i64 (x5 : Int)) = V := ⟨_, rfl⟩
                  rw [hW9] at hp1
                  have HP1 : Hid (PB n gi gv w (stl h V (i + 1)) (wds D) V W9) := by
                    exact hp1
                  clear hp hp1 r1 r2 r3 hx1 hx2 hx3 hx4 hx5
                  go_upto_region 37 with fail
                  go_region
                  go_wp2
                  exact ⟨⟨i + 1, hlt, by go_num, HP1.out.drew⟩, by simp [intOf]; omega⟩
                · have hi' : i = 8 := by omega
                  subst hi'
                  rw [← HV.out.1, stl_full] at hp
                  have HP : Hid (PB n gi gv w (prs h D count mk) (wds D) (rds (wds D) (pv h count mk) 10) wr) := hp
                  have HIB : Hid ((Tryd.prog.info? 78).map (·.size) = some (VN .i64 (prs h D count mk)).size) := by
                    have : (Tryd.prog.info? 78).map (·.size) = some (VN .i64 (prs h D count mk)).size := by rw [VN_size, (prs_s8 HR.out.2.2.2.2.1 D count HMK.out.1).len]; exact info8i
                    exact this
                  have HSB : Hid ((VN .i64 z8n).size = (VN .i64 (prs h D count mk)).size) := by
                    have : (VN .i64 z8n).size = (VN .i64 (prs h D count mk)).size := by rw [VN_size, VN_size, (prs_s8 HR.out.2.2.2.2.1 D count HMK.out.1).len]; rfl
                    exact this
                  clear hp hlt hi
                  go_wp2_with (with_reducible refine at_list ?_; first | (refine wpList_load_row rfl 78 (.tmp 4) rfl n rfl 78 (VN .i64 (prs h D count mk)) (0, 0) _ HP.out.hh Tryd.underlying78 rfl HIB.out ?_) | (refine wpList_store_row rfl 78 (.tmp 8) (.tmp 162) rfl (n + 1) (VN .i64 (prs h D count mk)) rfl rfl 78 (VN .i64 z8n) HP.out.hr HIB.out HSB.out (VN_one _ _) ?_))
                  refine bodyPost_ret (v := .agg (VN .i64 (prs h D count mk))) ?_ rfl ⟨rfl, below_setRow HP.out.old _ (by omega) _⟩
                  exact results_cell_row (P := Tryd.prog) (fn := Tryd.f33) (p := 8) (ty := 78) rfl _ _ (n + 1) 78 (VN .i64 (prs h D count mk)) (0, 0) _ rfl (setRow_heap _ _ _ _ 78 _ HP.out.hr) Tryd.underlying78 rfl HIB.out
end Go.Proofs.YtfkbgodfcnmepaaDoor
