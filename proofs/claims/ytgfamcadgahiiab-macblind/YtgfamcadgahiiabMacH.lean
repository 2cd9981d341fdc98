import Derived.Test.YtgfamcadgahiiabMacG
import Derived.Test.YtgfamcadgahiiabMskA
import Derived.Test.YtgfamcadgahiiabMacBc
namespace Go.Proofs.Ytgfamcadgahiiab
set_option linter.unusedSimpArgs false
set_option linter.unusedVariables false
open Go.ChangeShapes Go.WideShapes Go.ChangeAt Go.RowKit Go.Pin Go.Prm
theorem eqL_is (a b : List Int) : (eqL a b == 1) = decide (a = b) := by
  unfold eqL
  by_cases h : a = b
  · rw [if_pos h]; simp [h]
  · rw [if_neg h]; simp [h]
/-- 16 bytes -/
structure Tag16 (b : List Int) : Prop where
  len : b.length = 16
  bd : Byt b
theorem mtag_t (key D : List Int) : Tag16 (mtag key D) := ⟨mtag_len _ _, mtag_byt _ _⟩
set_option maxRecDepth 100000 in
set_option maxHeartbeats 4000000 in
theorem check_any {B : Nat} {w : World} {rv : Value} {l : List (Int × Int)} {bx : List (Nat × Obj)} {W : World} (h : Ev B w rv l bx W) {key tg : List Int} (hk : Key32 key) (ht : Tag16 tg) {a : Option Addr} {n cap : Nat} {Ds : List (List Int)} (hP : PSrc B w bx a n Ds) (hD : BytL Ds) (hl : rv ≠ .pointer none → l.length + 25 * n + Ds.flatten.length ≤ 600000) :
    Calls Try.prog 7 #[rv, .agg (VI .u8 key), .agg (VI .u8 tg), .slice a n cap] W fun e w' => e = .returned (.bool (decide (mtag key Ds.flatten = tg))) ∧ Ev B w rv (l ++ olg (Ds.map List.length) ++ [ifl (decide (mtag key Ds.flatten = tg))]) bx w' := by
  obtain ⟨q, hq⟩ : ∃ q, W.heap.size = q := ⟨_, rfl⟩
  have e3 := (h.new (.cells (VI .u8 key) 23)).new (.cells (VI .u8 tg) 27)
  simp only [size_alloc, hq] at e3
  obtain ⟨V0, hV0⟩ : ∃ V, W.alloc (.cells (VI .u8 key) 23) = V := ⟨_, rfl⟩
  obtain ⟨W0, hW0⟩ : ∃ V, V0.alloc (.cells (VI .u8 tg) 27) = V := ⟨_, rfl⟩
  have hsV : V0.heap.size = q + 1 := by rw [← hV0, size_alloc, hq]
  rw [hV0, hW0] at e3
  have E3 : Hid (Ev B w rv l ((q + 1, .cells (VI .u8 tg) 27) :: (q, .cells (VI .u8 key) 23) :: bx) W0) := e3
  have HS : Hid (V0.heap.size = q + 1) := hsV
  have HL : Hid ((rv ≠ .pointer none → l.length + 25 * n + Ds.flatten.length ≤ 600000) ∧ BytL Ds ∧ Key32 key ∧ Tag16 tg ∧ PSrc B w bx a n Ds) := ⟨hl, hD, hk, ht, hP⟩
  have HI : Hid ((Try.prog.info? 23).map (·.size) = some (VI .u8 key).size) := by
    have : (Try.prog.info? 23).map (·.size) = some (VI .u8 key).size := by rw [VI_size, hk.len]; exact infoK
    exact this
  have HIT : Hid ((Try.prog.info? 27).map (·.size) = some (VI .u8 tg).size) := by
    have : (Try.prog.info? 27).map (·.size) = some (VI .u8 tg).size := by rw [VI_size, ht.len]; exact infoT
    exact this
  clear e3 h hk hP hD hl ht hsV
  go_enter Try.func7, Try.ntmps7
  go_upto_region 1 with fail
  refine wp_as (c' := rgCk1) (by kernel_rfl) ?_
  rw [HS.out]
  have hol : (olg (Ds.map List.length)).length ≤ 5 + 22 * n + Ds.flatten.length := by
    have := olg_len (Ds.map List.length)
    rw [← flat_len, List.length_map, HL.out.2.2.2.2.1.1] at this
    exact this
  refine Ck1 (p5 := q) (p6 := q + 1) (rv := rv) (pv := .slice a n cap) (key := key) (tg := tg) (tv := mtag key Ds.flatten) (eb := eqL (mtag key Ds.flatten) tg) (eq := decide (mtag key Ds.flatten = tg))
    (R0 := Ev B w rv l ((q + 1, .cells (VI .u8 tg) 27) :: (q, .cells (VI .u8 key) 23) :: bx))
    (R1 := Ev B w rv (l ++ olg (Ds.map List.length)) ((q + 1, .cells (VI .u8 tg) 27) :: (q, .cells (VI .u8 key) 23) :: bx))
    (R2 := Ev B w rv (l ++ olg (Ds.map List.length)) ((q + 1, .cells (VI .u8 tg) 27) :: (q, .cells (VI .u8 key) 23) :: bx))
    (R3 := Ev B w rv (l ++ olg (Ds.map List.length) ++ [ifl (decide (mtag key Ds.flatten = tg))]) ((q + 1, .cells (VI .u8 tg) 27) :: (q, .cells (VI .u8 key) 23) :: bx))
    HL.out.2.2.1.len HL.out.2.2.2.1.len (eqL_is _ _) E3.out.drew (fun Y h => ⟨row_range (h.row mem1), row_range (h.row mem0)⟩) ?_ (fun Y h => ⟨row_range (h.row mem1), row_range (h.row mem0)⟩) ?_ (fun Y h => ⟨row_range (h.row mem1), row_range (h.row mem0)⟩) ?_ (fun Y h => ⟨row_range (h.row mem1), row_range (h.row mem0)⟩) (fun _ _ d _ _ h => by cases d <;> exact h) ?_
  · exact fun Y h => of_any h HL.out.2.2.1 (HL.out.2.2.2.2.sub (fun p hp => memr2 hp)) HL.out.2.1 HL.out.1
  · exact fun Y h => (tags_any (mtag key Ds.flatten) tg (mtag_len _ _) HL.out.2.2.2.1.len (mtag_byt _ _) HL.out.2.2.2.1.bd Y).mono fun e w' hh => ⟨hh.1, h.below hh.2⟩
  · exact fun Y h => v_if h (fun hr => by have := HL.out.1 hr; rw [List.length_append]; omega) _
  intro W9 h9
  have HF : Hid (Ev B w rv (l ++ olg (Ds.map List.length) ++ [ifl (decide (mtag key Ds.flatten = tg))]) bx W9) := h9.tail.tail
  clear h9 hol
  go_wp2
  go_ret
  exact ⟨rfl, HF.out⟩
end Go.Proofs.Ytgfamcadgahiiab
