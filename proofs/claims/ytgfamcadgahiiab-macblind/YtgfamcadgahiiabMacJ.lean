import Derived.Test.YtgfamcadgahiiabMacI
namespace Go.Proofs.Ytgfamcadgahiiab
set_option linter.unusedSimpArgs false
set_option linter.unusedVariables false
open Go.ChangeShapes Go.WideShapes Go.ChangeAt Go.RowKit Go.Pin Go.Prm
def kr : List Int := [107, 101, 101, 108, 32, 97, 110, 100, 32, 114, 117, 100, 100, 101, 114]
theorem kr_byt : Byt kr := by decide
def kR : List Int := [107, 101, 101, 108, 32, 97, 110, 100, 32, 82, 117, 100, 100, 101, 114]
theorem kR_byt : Byt kR := by decide
theorem run_Kn9 {a : Act} {o : Oper} (ho : o.op = .buildSlice 32 15 #[(0, .const (.int .u8 107)), (1, .const (.int .u8 101)), (2, .const (.int .u8 101)), (3, .const (.int .u8 108)), (4, .const (.int .u8 32)), (5, .const (.int .u8 97)), (6, .const (.int .u8 110)), (7, .const (.int .u8 100)), (8, .const (.int .u8 32)), (9, .const (.int .u8 114)), (10, .const (.int .u8 117)), (11, .const (.int .u8 100)), (12, .const (.int .u8 100)), (13, .const (.int .u8 101)), (14, .const (.int .u8 114))]) (w : World) : (execOp a.eval o).run Try.prog w = .ok (.value (.slice (some ⟨w.heap.size, 0, none⟩) 15 15)) (w.alloc (.cells (VI .u8 kr) 5)) := by
  unfold execOp
  simp only [ho]
  go_simp
  try rfl
noncomputable def rgKn9 : Code := ((Try.f8.body.bind (findReg 9)).getD .skip)
noncomputable def opKn9 : Array Oper := opsOf rgKn9
theorem rgKn9_is : rgKn9 = .region 9 opKn9 true := by kernel_rfl
theorem opKn9_ns : Region.noSelect opKn9 = true := by kernel_rfl
theorem opKn9_0 : opIs opKn9 0 (.call { callee := .value (.func 19), args := #[], argTypes := #[] }) (some 28) := by unfold opIs; kernel_rfl
theorem opKn9_1 : opIs opKn9 1 (.load 27 (.tmp 2)) (some 29) := by unfold opIs; kernel_rfl
theorem opKn9_2 : opIs opKn9 2 (.buildSlice 32 15 #[(0, .const (.int .u8 107)), (1, .const (.int .u8 101)), (2, .const (.int .u8 101)), (3, .const (.int .u8 108)), (4, .const (.int .u8 32)), (5, .const (.int .u8 97)), (6, .const (.int .u8 110)), (7, .const (.int .u8 100)), (8, .const (.int .u8 32)), (9, .const (.int .u8 114)), (10, .const (.int .u8 117)), (11, .const (.int .u8 100)), (12, .const (.int .u8 100)), (13, .const (.int .u8 101)), (14, .const (.int .u8 114))]) (some 30) := by unfold opIs; kernel_rfl
theorem opKn9_3 : opIs opKn9 3 (.convert 32 32 (.tmp 30)) (some 31) := by unfold opIs; kernel_rfl
theorem opKn9_4 : opIs opKn9 4 (.buildSlice 24 1 #[(0, .tmp 31)]) (some 32) := by unfold opIs; kernel_rfl
theorem opKn9_5 : opIs opKn9 5 (.call { callee := .value (.func 7), args := #[.const (.pointer none), .tmp 28, .tmp 29, .tmp 32], argTypes := #[33, 23, 27, 24] }) (some 33) := by unfold opIs; kernel_rfl
theorem opKn9_6 : opIs opKn9 6 (.assign (.tmp 33)) (some 6) := by unfold opIs; kernel_rfl
set_option maxRecDepth 100000 in
set_option maxHeartbeats 4000000 in
theorem Kn9 {Q : Exit → Act → World → Prop} {B : Nat} {w W : World} {bx : List (Nat × Obj)} {p2 : Nat} {tg : List Int} {a0 : Act} (ht : Tag16 tg) (h0 : Ev B w (.pointer none) [] bx W) (HS : ∀ Y, Ev B w (.pointer none) [] bx Y → Y.rangeAt p2 0 (tg.map (Value.int .u8))) (sz : a0.tmps.size = 70) (e2 : a0.eval (.tmp 2) = .pointer (some ⟨p2, 0, none⟩))
    (HPN : ∀ c (a : Act) d v w, Q (.panic c) (a.put d v) w → Q (.panic c) a w)
    (H : ∀ g1 g2 Y, Ev B w (.pointer none) [] bx Y → Q .normal (((((((a0.put (some 29) (.agg (VI .u8 tg))).put (some 30) (.slice (some ⟨g1, 0, none⟩) 15 15)).put (some 31) (.slice (some ⟨g1, 0, none⟩) 15 15)).put (some 32) (.slice (some ⟨g2, 0, none⟩) 1 1)).put (some 28) (.agg (VI .u8 (kl 32)))).put (some 33) (.bool (decide (mtag (kl 32) kr = tg)))).put (some 6) (.bool (decide (mtag (kl 32) kr = tg)))) Y) :
    Code.wp Try.prog rgKn9 Q a0 W := by
  have hS : ∀ k Y, Ev B w (.pointer none) [] k Y → (∀ p ∈ bx, p ∈ k) → Y.rangeAt p2 0 (tg.map (Value.int .u8)) := fun k Y h hs => HS Y (h.sub hs)
  have L14 : ∀ g1 g2 Y, (Ev B w (.pointer none) [] ((g2, .cells #[.slice (some ⟨g1, 0, none⟩) 15 15] 32) :: (g1, .cells (VI .u8 kr) 5 (15, 16)) :: bx) Y) → wpAnyH Try.prog .any opKn9 Q (fun Y : World => Y.rangeAt p2 0 (tg.map (Value.int .u8))) 2 #[true, true, true, true, true, false, false] (((((a0.put (some 29) (.agg (VI .u8 tg))).put (some 30) (.slice (some ⟨g1, 0, none⟩) 15 15)).put (some 31) (.slice (some ⟨g1, 0, none⟩) 15 15)).put (some 32) (.slice (some ⟨g2, 0, none⟩) 1 1)).put (some 28) (.agg (VI .u8 (kl 32)))) Y := fun g1 g2 Y h => by
    have q0 : (((((a0.put (some 29) (.agg (VI .u8 tg))).put (some 30) (.slice (some ⟨g1, 0, none⟩) 15 15)).put (some 31) (.slice (some ⟨g1, 0, none⟩) 15 15)).put (some 32) (.slice (some ⟨g2, 0, none⟩) 1 1)).put (some 28) (.agg (VI .u8 (kl 32)))).eval (.tmp 28) = .agg (VI .u8 (kl 32)) := eval_put_eq _ _ _ (by simp only [size_put, sz]; decide)
    have q1 : (((((a0.put (some 29) (.agg (VI .u8 tg))).put (some 30) (.slice (some ⟨g1, 0, none⟩) 15 15)).put (some 31) (.slice (some ⟨g1, 0, none⟩) 15 15)).put (some 32) (.slice (some ⟨g2, 0, none⟩) 1 1)).put (some 28) (.agg (VI .u8 (kl 32)))).eval (.tmp 29) = .agg (VI .u8 tg) := by rw [eval_put_ne _ _ _ _ (by decide), eval_put_ne _ _ _ _ (by decide), eval_put_ne _ _ _ _ (by decide), eval_put_ne _ _ _ _ (by decide)]; exact eval_put_eq _ _ _ (by rw [sz]; decide)
    have q2 : (((((a0.put (some 29) (.agg (VI .u8 tg))).put (some 30) (.slice (some ⟨g1, 0, none⟩) 15 15)).put (some 31) (.slice (some ⟨g1, 0, none⟩) 15 15)).put (some 32) (.slice (some ⟨g2, 0, none⟩) 1 1)).put (some 28) (.agg (VI .u8 (kl 32)))).eval (.tmp 32) = .slice (some ⟨g2, 0, none⟩) 1 1 := by rw [eval_put_ne _ _ _ _ (by decide)]; exact eval_put_eq _ _ _ (by simp only [size_put, sz]; decide)
    have hP : PSrc B w ((g2, .cells #[.slice (some ⟨g1, 0, none⟩) 15 15] 32) :: (g1, .cells (VI .u8 kr) 5 (15, 16)) :: bx) (some ⟨g2, 0, none⟩) 1 [kr] := ⟨⟨rfl, by decide⟩, fun j hj => by
      obtain rfl : j = 0 := by omega
      exact ⟨g2, 0, .slice (some ⟨g1, 0, none⟩) 15 15, rfl, fun Z _ hq => by rw [cell_of_row Z _ _ _ _ _ (hq _ mem0)]; rfl, src_box (L := kr) mem1 0 15 15 (by decide) (by decide)⟩⟩
    refine readyH opKn9_5 (by kernel_rfl) (fun o ho hd => wpCall (v := .bool (decide (mtag (kl 32) kr = tg))) ho hd (args := #[.pointer none, .agg (VI .u8 (kl 32)), .agg (VI .u8 tg), .slice (some ⟨g2, 0, none⟩) 1 1]) (by simp only [List.map_toArray, List.map_cons, List.map_nil, q0, q1, q2] <;> rfl) (fun _ => rfl) ((check_any h (kl_key 32) ht hP (by intro D hD; rw [List.mem_singleton.1 hD]; exact kr_byt) (fun _ => by decide)).mono (fun e w' hh => ⟨by rw [hh.1]; simp, hh.2⟩)) (fun w' hw' => ?_))
    have hn := hw'.nilOf []
    refine ⟨hS _ _ hn (fun p hp => memr2 hp), ?_⟩
    refine wpAnyH_as (l' := #[true, true, true, true, true, true, false]) (by kernel_rfl) ?_
    have q3 : ((((((a0.put (some 29) (.agg (VI .u8 tg))).put (some 30) (.slice (some ⟨g1, 0, none⟩) 15 15)).put (some 31) (.slice (some ⟨g1, 0, none⟩) 15 15)).put (some 32) (.slice (some ⟨g2, 0, none⟩) 1 1)).put (some 28) (.agg (VI .u8 (kl 32)))).put (some 33) (.bool (decide (mtag (kl 32) kr = tg)))).eval (.tmp 33) = .bool (decide (mtag (kl 32) kr = tg)) := eval_put_eq _ _ _ (by simp only [size_put, sz]; decide)
    refine readyH opKn9_6 (by kernel_rfl) (fun o ho hd => wpRun (v := .bool (decide (mtag (kl 32) kr = tg))) (w' := w') hd (run_assign ho q3 w') ⟨hS _ _ hn (fun p hp => memr2 hp), ?_⟩)
    refine wpAnyH_as (l' := #[true, true, true, true, true, true, true]) (by kernel_rfl) ?_
    exact wpAnyH_done (by kernel_rfl) (H g1 g2 w' (hn.sub (fun p hp => memr2 hp))) _
  have L13 : ∀ g1 : Nat, ∀ Y, (Ev B w (.pointer none) [] ((g1, .cells (VI .u8 kr) 5 (15, 16)) :: bx) Y ∧ ∀ p ∈ bx, p.1 ≠ g1) → wpAnyH Try.prog .any opKn9 Q (fun Y : World => Y.rangeAt p2 0 (tg.map (Value.int .u8))) 3 #[true, true, true, true, false, false, false] ((((a0.put (some 29) (.agg (VI .u8 tg))).put (some 30) (.slice (some ⟨g1, 0, none⟩) 15 15)).put (some 31) (.slice (some ⟨g1, 0, none⟩) 15 15)).put (some 28) (.agg (VI .u8 (kl 32)))) Y := fun g1 Y h => by
    have QE : ((((a0.put (some 29) (.agg (VI .u8 tg))).put (some 30) (.slice (some ⟨g1, 0, none⟩) 15 15)).put (some 31) (.slice (some ⟨g1, 0, none⟩) 15 15)).put (some 28) (.agg (VI .u8 (kl 32)))).eval (.tmp 31) = .slice (some ⟨g1, 0, none⟩) 15 15 := by rw [eval_put_ne _ _ _ _ (by decide)]; exact eval_put_eq _ _ _ (by simp only [size_put, sz]; decide)
    refine readyH opKn9_4 (by kernel_rfl) (fun o ho hd => wpRun (v := .slice (some ⟨Y.heap.size, 0, none⟩) 1 1) (w' := Y.alloc (.cells #[.slice (some ⟨g1, 0, none⟩) 15 15] 32)) hd (run_bsL ho QE rfl Y) ?_)
    have hn := h.1.new (.cells #[.slice (some ⟨g1, 0, none⟩) 15 15] 32)
    refine ⟨hS _ _ hn (fun p hp => memr2 hp), ?_⟩
    refine wpAnyH_as (l' := #[true, true, true, true, true, false, false]) (by kernel_rfl) ?_
    rw [put_comm _ _ _ (by decide)]
    exact L14 g1 Y.heap.size _ hn
  have L12 : ∀ g1 : Nat, ∀ Y, (Ev B w (.pointer none) [] ((g1, .cells (VI .u8 kr) 5) :: bx) Y ∧ ∀ p ∈ bx, p.1 ≠ g1) → wpAnyH Try.prog .any opKn9 Q (fun Y : World => Y.rangeAt p2 0 (tg.map (Value.int .u8))) 4 #[true, true, true, false, false, false, false] (((a0.put (some 29) (.agg (VI .u8 tg))).put (some 30) (.slice (some ⟨g1, 0, none⟩) 15 15)).put (some 28) (.agg (VI .u8 (kl 32)))) Y := fun g1 Y h => by
    have QE : (((a0.put (some 29) (.agg (VI .u8 tg))).put (some 30) (.slice (some ⟨g1, 0, none⟩) 15 15)).put (some 28) (.agg (VI .u8 (kl 32)))).eval (.tmp 30) = .slice (some ⟨g1, 0, none⟩) 15 15 := by rw [eval_put_ne _ _ _ _ (by decide)]; exact eval_put_eq _ _ _ (by simp only [size_put, sz]; decide)
    refine readyH opKn9_3 (by kernel_rfl) (fun o ho hd => wpRun (v := .slice (some ⟨g1, 0, none⟩) 15 15) (w' := Y.freeze ⟨g1, (VI .u8 kr).size, none⟩ 1) hd (run_convM ho QE (h.1.row mem0)) ?_)
    have hn : Ev B w (.pointer none) [] ((g1, .cells (VI .u8 kr) 5 (15, 16)) :: bx) (Y.freeze ⟨g1, (VI .u8 kr).size, none⟩ 1) := h.1.set rfl h.2 (freeze_grow Y g1 _) (freeze_at (h.1.row mem0))
    refine ⟨hS _ _ hn (fun p hp => memr1 hp), ?_⟩
    refine wpAnyH_as (l' := #[true, true, true, true, false, false, false]) (by kernel_rfl) ?_
    rw [put_comm _ _ _ (by decide)]
    exact L13 g1 _ ⟨hn, h.2⟩
  have L10 : ∀ Y, (Ev B w (.pointer none) [] bx Y) → wpAnyH Try.prog .any opKn9 Q (fun Y : World => Y.rangeAt p2 0 (tg.map (Value.int .u8))) 5 #[true, true, false, false, false, false, false] ((a0.put (some 29) (.agg (VI .u8 tg))).put (some 28) (.agg (VI .u8 (kl 32)))) Y := fun  Y h => by
    refine readyH opKn9_2 (by kernel_rfl) (fun o ho hd => wpRun (v := .slice (some ⟨Y.heap.size, 0, none⟩) 15 15) (w' := Y.alloc (.cells (VI .u8 kr) 5)) hd (run_Kn9 ho Y) ?_)
    have hn := h.new (.cells (VI .u8 kr) 5)
    refine ⟨hS _ _ hn (fun p hp => memr1 hp), ?_⟩
    refine wpAnyH_as (l' := #[true, true, true, false, false, false, false]) (by kernel_rfl) ?_
    rw [put_comm _ _ _ (by decide)]
    exact L12 Y.heap.size _ ⟨hn, fun p hp => by have := heap_lt (h.at' p hp); omega⟩
  have L04 : ∀ g1 g2 : Nat, ∀ Y, (Ev B w (.pointer none) [] ((g2, .cells #[.slice (some ⟨g1, 0, none⟩) 15 15] 32) :: (g1, .cells (VI .u8 kr) 5 (15, 16)) :: bx) Y) → wpAnyH Try.prog .any opKn9 Q (fun Y : World => Y.rangeAt p2 0 (tg.map (Value.int .u8))) 3 #[false, true, true, true, true, false, false] ((((a0.put (some 29) (.agg (VI .u8 tg))).put (some 30) (.slice (some ⟨g1, 0, none⟩) 15 15)).put (some 31) (.slice (some ⟨g1, 0, none⟩) 15 15)).put (some 32) (.slice (some ⟨g2, 0, none⟩) 1 1)) Y := fun g1 g2 Y h => by
    refine readyH opKn9_0 (by kernel_rfl) (fun o ho hd => wpCall (v := .agg (VI .u8 (kl 32))) ho hd (args := #[]) (by simp) (fun _ => rfl) (counted_any Y) (fun w' hw' => ?_))
    refine ⟨hS _ _ (h.below hw') (fun p hp => memr2 hp), ?_⟩
    refine wpAnyH_as (l' := #[true, true, true, true, true, false, false]) (by kernel_rfl) ?_
    exact L14 g1 g2 _ (h.below hw')
  have L03 : ∀ g1 : Nat, ∀ Y, (Ev B w (.pointer none) [] ((g1, .cells (VI .u8 kr) 5 (15, 16)) :: bx) Y ∧ ∀ p ∈ bx, p.1 ≠ g1) → wpAnyH Try.prog .any opKn9 Q (fun Y : World => Y.rangeAt p2 0 (tg.map (Value.int .u8))) 4 #[false, true, true, true, false, false, false] (((a0.put (some 29) (.agg (VI .u8 tg))).put (some 30) (.slice (some ⟨g1, 0, none⟩) 15 15)).put (some 31) (.slice (some ⟨g1, 0, none⟩) 15 15)) Y := fun g1 Y h => by
    have QE : (((a0.put (some 29) (.agg (VI .u8 tg))).put (some 30) (.slice (some ⟨g1, 0, none⟩) 15 15)).put (some 31) (.slice (some ⟨g1, 0, none⟩) 15 15)).eval (.tmp 31) = .slice (some ⟨g1, 0, none⟩) 15 15 := eval_put_eq _ _ _ (by simp only [size_put, sz]; decide)
    refine readyH2 opKn9_0 opKn9_4 (by kernel_rfl) (fun o ho hd => wpCall (v := .agg (VI .u8 (kl 32))) ho hd (args := #[]) (by simp) (fun _ => rfl) (counted_any Y) (fun w' hw' => ?_)) (fun o ho hd => wpRun (v := .slice (some ⟨Y.heap.size, 0, none⟩) 1 1) (w' := Y.alloc (.cells #[.slice (some ⟨g1, 0, none⟩) 15 15] 32)) hd (run_bsL ho QE rfl Y) ?_)
    · refine ⟨hS _ _ (h.1.below hw') (fun p hp => memr1 hp), ?_⟩
      refine wpAnyH_as (l' := #[true, true, true, true, false, false, false]) (by kernel_rfl) ?_
      exact L13 g1 _ (⟨h.1.below hw', h.2⟩)
    · have hn := h.1.new (.cells #[.slice (some ⟨g1, 0, none⟩) 15 15] 32)
      refine ⟨hS _ _ hn (fun p hp => memr2 hp), ?_⟩
      refine wpAnyH_as (l' := #[false, true, true, true, true, false, false]) (by kernel_rfl) ?_
      exact L04 g1 Y.heap.size _ hn
  have L02 : ∀ g1 : Nat, ∀ Y, (Ev B w (.pointer none) [] ((g1, .cells (VI .u8 kr) 5) :: bx) Y ∧ ∀ p ∈ bx, p.1 ≠ g1) → wpAnyH Try.prog .any opKn9 Q (fun Y : World => Y.rangeAt p2 0 (tg.map (Value.int .u8))) 5 #[false, true, true, false, false, false, false] ((a0.put (some 29) (.agg (VI .u8 tg))).put (some 30) (.slice (some ⟨g1, 0, none⟩) 15 15)) Y := fun g1 Y h => by
    have QE : ((a0.put (some 29) (.agg (VI .u8 tg))).put (some 30) (.slice (some ⟨g1, 0, none⟩) 15 15)).eval (.tmp 30) = .slice (some ⟨g1, 0, none⟩) 15 15 := eval_put_eq _ _ _ (by simp only [size_put, sz]; decide)
    refine readyH2 opKn9_0 opKn9_3 (by kernel_rfl) (fun o ho hd => wpCall (v := .agg (VI .u8 (kl 32))) ho hd (args := #[]) (by simp) (fun _ => rfl) (counted_any Y) (fun w' hw' => ?_)) (fun o ho hd => wpRun (v := .slice (some ⟨g1, 0, none⟩) 15 15) (w' := Y.freeze ⟨g1, (VI .u8 kr).size, none⟩ 1) hd (run_convM ho QE (h.1.row mem0)) ?_)
    · refine ⟨hS _ _ (h.1.below hw') (fun p hp => memr1 hp), ?_⟩
      refine wpAnyH_as (l' := #[true, true, true, false, false, false, false]) (by kernel_rfl) ?_
      exact L12 g1 _ (⟨h.1.below hw', h.2⟩)
    · have hn : Ev B w (.pointer none) [] ((g1, .cells (VI .u8 kr) 5 (15, 16)) :: bx) (Y.freeze ⟨g1, (VI .u8 kr).size, none⟩ 1) := h.1.set rfl h.2 (freeze_grow Y g1 _) (freeze_at (h.1.row mem0))
      refine ⟨hS _ _ hn (fun p hp => memr1 hp), ?_⟩
      refine wpAnyH_as (l' := #[false, true, true, true, false, false, false]) (by kernel_rfl) ?_
      exact L03 g1 _ ⟨hn, h.2⟩
  have L00 : ∀ Y, (Ev B w (.pointer none) [] bx Y) → wpAnyH Try.prog .any opKn9 Q (fun Y : World => Y.rangeAt p2 0 (tg.map (Value.int .u8))) 6 #[false, true, false, false, false, false, false] (a0.put (some 29) (.agg (VI .u8 tg))) Y := fun  Y h => by
    refine readyH2 opKn9_0 opKn9_2 (by kernel_rfl) (fun o ho hd => wpCall (v := .agg (VI .u8 (kl 32))) ho hd (args := #[]) (by simp) (fun _ => rfl) (counted_any Y) (fun w' hw' => ?_)) (fun o ho hd => wpRun (v := .slice (some ⟨Y.heap.size, 0, none⟩) 15 15) (w' := Y.alloc (.cells (VI .u8 kr) 5)) hd (run_Kn9 ho Y) ?_)
    · refine ⟨hS _ _ (h.below hw') (fun p hp => hp), ?_⟩
      refine wpAnyH_as (l' := #[true, true, false, false, false, false, false]) (by kernel_rfl) ?_
      exact L10  _ (h.below hw')
    · have hn := h.new (.cells (VI .u8 kr) 5)
      refine ⟨hS _ _ hn (fun p hp => memr1 hp), ?_⟩
      refine wpAnyH_as (l' := #[false, true, true, false, false, false, false]) (by kernel_rfl) ?_
      exact L02 Y.heap.size _ ⟨hn, fun p hp => by have := heap_lt (h.at' p hp); omega⟩
  rw [rgKn9_is]
  refine wp_region_held_drew (S := fun Y : World => Y.rangeAt p2 0 (tg.map (Value.int .u8))) (by kernel_rfl) (HS _ h0.drew) (fun hH => ?_)
  refine wpAnyH_as (l' := #[false, false, false, false, false, false, false]) (by kernel_rfl) ?_
  refine takeH (v := .agg (VI .u8 tg)) opKn9_1 opKn9_ns (by kernel_rfl) (by kernel_rfl) HPN (fun w hw o ho => run_ldT ht.len ho e2 w hw) hH ?_
  refine wpAnyH_as (l' := #[false, true, false, false, false, false, false]) (by kernel_rfl) ?_
  exact L00 _ h0.drew
theorem run_Kn10 {a : Act} {o : Oper} (ho : o.op = .buildSlice 32 15 #[(0, .const (.int .u8 107)), (1, .const (.int .u8 101)), (2, .const (.int .u8 101)), (3, .const (.int .u8 108)), (4, .const (.int .u8 32)), (5, .const (.int .u8 97)), (6, .const (.int .u8 110)), (7, .const (.int .u8 100)), (8, .const (.int .u8 32)), (9, .const (.int .u8 82)), (10, .const (.int .u8 117)), (11, .const (.int .u8 100)), (12, .const (.int .u8 100)), (13, .const (.int .u8 101)), (14, .const (.int .u8 114))]) (w : World) : (execOp a.eval o).run Try.prog w = .ok (.value (.slice (some ⟨w.heap.size, 0, none⟩) 15 15)) (w.alloc (.cells (VI .u8 kR) 5)) := by
  unfold execOp
  simp only [ho]
  go_simp
  try rfl
noncomputable def rgKn10 : Code := ((Try.f8.body.bind (findReg 10)).getD .skip)
noncomputable def opKn10 : Array Oper := opsOf rgKn10
theorem rgKn10_is : rgKn10 = .region 10 opKn10 true := by kernel_rfl
theorem opKn10_ns : Region.noSelect opKn10 = true := by kernel_rfl
theorem opKn10_0 : opIs opKn10 0 (.call { callee := .value (.func 19), args := #[], argTypes := #[] }) (some 34) := by unfold opIs; kernel_rfl
theorem opKn10_1 : opIs opKn10 1 (.load 27 (.tmp 2)) (some 35) := by unfold opIs; kernel_rfl
theorem opKn10_2 : opIs opKn10 2 (.buildSlice 32 15 #[(0, .const (.int .u8 107)), (1, .const (.int .u8 101)), (2, .const (.int .u8 101)), (3, .const (.int .u8 108)), (4, .const (.int .u8 32)), (5, .const (.int .u8 97)), (6, .const (.int .u8 110)), (7, .const (.int .u8 100)), (8, .const (.int .u8 32)), (9, .const (.int .u8 82)), (10, .const (.int .u8 117)), (11, .const (.int .u8 100)), (12, .const (.int .u8 100)), (13, .const (.int .u8 101)), (14, .const (.int .u8 114))]) (some 36) := by unfold opIs; kernel_rfl
theorem opKn10_3 : opIs opKn10 3 (.convert 32 32 (.tmp 36)) (some 37) := by unfold opIs; kernel_rfl
theorem opKn10_4 : opIs opKn10 4 (.buildSlice 24 1 #[(0, .tmp 37)]) (some 38) := by unfold opIs; kernel_rfl
theorem opKn10_5 : opIs opKn10 5 (.call { callee := .value (.func 7), args := #[.const (.pointer none), .tmp 34, .tmp 35, .tmp 38], argTypes := #[33, 23, 27, 24] }) (some 39) := by unfold opIs; kernel_rfl
theorem opKn10_6 : opIs opKn10 6 (.assign (.tmp 39)) (some 7) := by unfold opIs; kernel_rfl
set_option maxRecDepth 100000 in
set_option maxHeartbeats 4000000 in
theorem Kn10 {Q : Exit → Act → World → Prop} {B : Nat} {w W : World} {bx : List (Nat × Obj)} {p2 : Nat} {tg : List Int} {a0 : Act} (ht : Tag16 tg) (h0 : Ev B w (.pointer none) [] bx W) (HS : ∀ Y, Ev B w (.pointer none) [] bx Y → Y.rangeAt p2 0 (tg.map (Value.int .u8))) (sz : a0.tmps.size = 70) (e2 : a0.eval (.tmp 2) = .pointer (some ⟨p2, 0, none⟩))
    (HPN : ∀ c (a : Act) d v w, Q (.panic c) (a.put d v) w → Q (.panic c) a w)
    (H : ∀ g1 g2 Y, Ev B w (.pointer none) [] bx Y → Q .normal (((((((a0.put (some 35) (.agg (VI .u8 tg))).put (some 36) (.slice (some ⟨g1, 0, none⟩) 15 15)).put (some 37) (.slice (some ⟨g1, 0, none⟩) 15 15)).put (some 38) (.slice (some ⟨g2, 0, none⟩) 1 1)).put (some 34) (.agg (VI .u8 (kl 32)))).put (some 39) (.bool (decide (mtag (kl 32) kR = tg)))).put (some 7) (.bool (decide (mtag (kl 32) kR = tg)))) Y) :
    Code.wp Try.prog rgKn10 Q a0 W := by
  have hS : ∀ k Y, Ev B w (.pointer none) [] k Y → (∀ p ∈ bx, p ∈ k) → Y.rangeAt p2 0 (tg.map (Value.int .u8)) := fun k Y h hs => HS Y (h.sub hs)
  have L14 : ∀ g1 g2 Y, (Ev B w (.pointer none) [] ((g2, .cells #[.slice (some ⟨g1, 0, none⟩) 15 15] 32) :: (g1, .cells (VI .u8 kR) 5 (15, 16)) :: bx) Y) → wpAnyH Try.prog .any opKn10 Q (fun Y : World => Y.rangeAt p2 0 (tg.map (Value.int .u8))) 2 #[true, true, true, true, true, false, false] (((((a0.put (some 35) (.agg (VI .u8 tg))).put (some 36) (.slice (some ⟨g1, 0, none⟩) 15 15)).put (some 37) (.slice (some ⟨g1, 0, none⟩) 15 15)).put (some 38) (.slice (some ⟨g2, 0, none⟩) 1 1)).put (some 34) (.agg (VI .u8 (kl 32)))) Y := fun g1 g2 Y h => by
    have q0 : (((((a0.put (some 35) (.agg (VI .u8 tg))).put (some 36) (.slice (some ⟨g1, 0, none⟩) 15 15)).put (some 37) (.slice (some ⟨g1, 0, none⟩) 15 15)).put (some 38) (.slice (some ⟨g2, 0, none⟩) 1 1)).put (some 34) (.agg (VI .u8 (kl 32)))).eval (.tmp 34) = .agg (VI .u8 (kl 32)) := eval_put_eq _ _ _ (by simp only [size_put, sz]; decide)
    have q1 : (((((a0.put (some 35) (.agg (VI .u8 tg))).put (some 36) (.slice (some ⟨g1, 0, none⟩) 15 15)).put (some 37) (.slice (some ⟨g1, 0, none⟩) 15 15)).put (some 38) (.slice (some ⟨g2, 0, none⟩) 1 1)).put (some 34) (.agg (VI .u8 (kl 32)))).eval (.tmp 35) = .agg (VI .u8 tg) := by rw [eval_put_ne _ _ _ _ (by decide), eval_put_ne _ _ _ _ (by decide), eval_put_ne _ _ _ _ (by decide), eval_put_ne _ _ _ _ (by decide)]; exact eval_put_eq _ _ _ (by rw [sz]; decide)
    have q2 : (((((a0.put (some 35) (.agg (VI .u8 tg))).put (some 36) (.slice (some ⟨g1, 0, none⟩) 15 15)).put (some 37) (.slice (some ⟨g1, 0, none⟩) 15 15)).put (some 38) (.slice (some ⟨g2, 0, none⟩) 1 1)).put (some 34) (.agg (VI .u8 (kl 32)))).eval (.tmp 38) = .slice (some ⟨g2, 0, none⟩) 1 1 := by rw [eval_put_ne _ _ _ _ (by decide)]; exact eval_put_eq _ _ _ (by simp only [size_put, sz]; decide)
    have hP : PSrc B w ((g2, .cells #[.slice (some ⟨g1, 0, none⟩) 15 15] 32) :: (g1, .cells (VI .u8 kR) 5 (15, 16)) :: bx) (some ⟨g2, 0, none⟩) 1 [kR] := ⟨⟨rfl, by decide⟩, fun j hj => by
      obtain rfl : j = 0 := by omega
      exact ⟨g2, 0, .slice (some ⟨g1, 0, none⟩) 15 15, rfl, fun Z _ hq => by rw [cell_of_row Z _ _ _ _ _ (hq _ mem0)]; rfl, src_box (L := kR) mem1 0 15 15 (by decide) (by decide)⟩⟩
    refine readyH opKn10_5 (by kernel_rfl) (fun o ho hd => wpCall (v := .bool (decide (mtag (kl 32) kR = tg))) ho hd (args := #[.pointer none, .agg (VI .u8 (kl 32)), .agg (VI .u8 tg), .slice (some ⟨g2, 0, none⟩) 1 1]) (by simp only [List.map_toArray, List.map_cons, List.map_nil, q0, q1, q2] <;> rfl) (fun _ => rfl) ((check_any h (kl_key 32) ht hP (by intro D hD; rw [List.mem_singleton.1 hD]; exact kR_byt) (fun _ => by decide)).mono (fun e w' hh => ⟨by rw [hh.1]; simp, hh.2⟩)) (fun w' hw' => ?_))
    have hn := hw'.nilOf []
    refine ⟨hS _ _ hn (fun p hp => memr2 hp), ?_⟩
    refine wpAnyH_as (l' := #[true, true, true, true, true, true, false]) (by kernel_rfl) ?_
    have q3 : ((((((a0.put (some 35) (.agg (VI .u8 tg))).put (some 36) (.slice (some ⟨g1, 0, none⟩) 15 15)).put (some 37) (.slice (some ⟨g1, 0, none⟩) 15 15)).put (some 38) (.slice (some ⟨g2, 0, none⟩) 1 1)).put (some 34) (.agg (VI .u8 (kl 32)))).put (some 39) (.bool (decide (mtag (kl 32) kR = tg)))).eval (.tmp 39) = .bool (decide (mtag (kl 32) kR = tg)) := eval_put_eq _ _ _ (by simp only [size_put, sz]; decide)
    refine readyH opKn10_6 (by kernel_rfl) (fun o ho hd => wpRun (v := .bool (decide (mtag (kl 32) kR = tg))) (w' := w') hd (run_assign ho q3 w') ⟨hS _ _ hn (fun p hp => memr2 hp), ?_⟩)
    refine wpAnyH_as (l' := #[true, true, true, true, true, true, true]) (by kernel_rfl) ?_
    exact wpAnyH_done (by kernel_rfl) (H g1 g2 w' (hn.sub (fun p hp => memr2 hp))) _
  have L13 : ∀ g1 : Nat, ∀ Y, (Ev B w (.pointer none) [] ((g1, .cells (VI .u8 kR) 5 (15, 16)) :: bx) Y ∧ ∀ p ∈ bx, p.1 ≠ g1) → wpAnyH Try.prog .any opKn10 Q (fun Y : World => Y.rangeAt p2 0 (tg.map (Value.int .u8))) 3 #[true, true, true, true, false, false, false] ((((a0.put (some 35) (.agg (VI .u8 tg))).put (some 36) (.slice (some ⟨g1, 0, none⟩) 15 15)).put (some 37) (.slice (some ⟨g1, 0, none⟩) 15 15)).put (some 34) (.agg (VI .u8 (kl 32)))) Y := fun g1 Y h => by
    have QE : ((((a0.put (some 35) (.agg (VI .u8 tg))).put (some 36) (.slice (some ⟨g1, 0, none⟩) 15 15)).put (some 37) (.slice (some ⟨g1, 0, none⟩) 15 15)).put (some 34) (.agg (VI .u8 (kl 32)))).eval (.tmp 37) = .slice (some ⟨g1, 0, none⟩) 15 15 := by rw [eval_put_ne _ _ _ _ (by decide)]; exact eval_put_eq _ _ _ (by simp only [size_put, sz]; decide)
    refine readyH opKn10_4 (by kernel_rfl) (fun o ho hd => wpRun (v := .slice (some ⟨Y.heap.size, 0, none⟩) 1 1) (w' := Y.alloc (.cells #[.slice (some ⟨g1, 0, none⟩) 15 15] 32)) hd (run_bsL ho QE rfl Y) ?_)
    have hn := h.1.new (.cells #[.slice (some ⟨g1, 0, none⟩) 15 15] 32)
    refine ⟨hS _ _ hn (fun p hp => memr2 hp), ?_⟩
    refine wpAnyH_as (l' := #[true, true, true, true, true, false, false]) (by kernel_rfl) ?_
    rw [put_comm _ _ _ (by decide)]
    exact L14 g1 Y.heap.size _ hn
  have L12 : ∀ g1 : Nat, ∀ Y, (Ev B w (.pointer none) [] ((g1, .cells (VI .u8 kR) 5) :: bx) Y ∧ ∀ p ∈ bx, p.1 ≠ g1) → wpAnyH Try.prog .any opKn10 Q (fun Y : World => Y.rangeAt p2 0 (tg.map (Value.int .u8))) 4 #[true, true, true, false, false, false, false] (((a0.put (some 35) (.agg (VI .u8 tg))).put (some 36) (.slice (some ⟨g1, 0, none⟩) 15 15)).put (some 34) (.agg (VI .u8 (kl 32)))) Y := fun g1 Y h => by
    have QE : (((a0.put (some 35) (.agg (VI .u8 tg))).put (some 36) (.slice (some ⟨g1, 0, none⟩) 15 15)).put (some 34) (.agg (VI .u8 (kl 32)))).eval (.tmp 36) = .slice (some ⟨g1, 0, none⟩) 15 15 := by rw [eval_put_ne _ _ _ _ (by decide)]; exact eval_put_eq _ _ _ (by simp only [size_put, sz]; decide)
    refine readyH opKn10_3 (by kernel_rfl) (fun o ho hd => wpRun (v := .slice (some ⟨g1, 0, none⟩) 15 15) (w' := Y.freeze ⟨g1, (VI .u8 kR).size, none⟩ 1) hd (run_convM ho QE (h.1.row mem0)) ?_)
    have hn : Ev B w (.pointer none) [] ((g1, .cells (VI .u8 kR) 5 (15, 16)) :: bx) (Y.freeze ⟨g1, (VI .u8 kR).size, none⟩ 1) := h.1.set rfl h.2 (freeze_grow Y g1 _) (freeze_at (h.1.row mem0))
    refine ⟨hS _ _ hn (fun p hp => memr1 hp), ?_⟩
    refine wpAnyH_as (l' := #[true, true, true, true, false, false, false]) (by kernel_rfl) ?_
    rw [put_comm _ _ _ (by decide)]
    exact L13 g1 _ ⟨hn, h.2⟩
  have L10 : ∀ Y, (Ev B w (.pointer none) [] bx Y) → wpAnyH Try.prog .any opKn10 Q (fun Y : World => Y.rangeAt p2 0 (tg.map (Value.int .u8))) 5 #[true, true, false, false, false, false, false] ((a0.put (some 35) (.agg (VI .u8 tg))).put (some 34) (.agg (VI .u8 (kl 32)))) Y := fun  Y h => by
    refine readyH opKn10_2 (by kernel_rfl) (fun o ho hd => wpRun (v := .slice (some ⟨Y.heap.size, 0, none⟩) 15 15) (w' := Y.alloc (.cells (VI .u8 kR) 5)) hd (run_Kn10 ho Y) ?_)
    have hn := h.new (.cells (VI .u8 kR) 5)
    refine ⟨hS _ _ hn (fun p hp => memr1 hp), ?_⟩
    refine wpAnyH_as (l' := #[true, true, true, false, false, false, false]) (by kernel_rfl) ?_
    rw [put_comm _ _ _ (by decide)]
    exact L12 Y.heap.size _ ⟨hn, fun p hp => by have := heap_lt (h.at' p hp); omega⟩
  have L04 : ∀ g1 g2 : Nat, ∀ Y, (Ev B w (.pointer none) [] ((g2, .cells #[.slice (some ⟨g1, 0, none⟩) 15 15] 32) :: (g1, .cells (VI .u8 kR) 5 (15, 16)) :: bx) Y) → wpAnyH Try.prog .any opKn10 Q (fun Y : World => Y.rangeAt p2 0 (tg.map (Value.int .u8))) 3 #[false, true, true, true, true, false, false] ((((a0.put (some 35) (.agg (VI .u8 tg))).put (some 36) (.slice (some ⟨g1, 0, none⟩) 15 15)).put (some 37) (.slice (some ⟨g1, 0, none⟩) 15 15)).put (some 38) (.slice (some ⟨g2, 0, none⟩) 1 1)) Y := fun g1 g2 Y h => by
    refine readyH opKn10_0 (by kernel_rfl) (fun o ho hd => wpCall (v := .agg (VI .u8 (kl 32))) ho hd (args := #[]) (by simp) (fun _ => rfl) (counted_any Y) (fun w' hw' => ?_))
    refine ⟨hS _ _ (h.below hw') (fun p hp => memr2 hp), ?_⟩
    refine wpAnyH_as (l' := #[true, true, true, true, true, false, false]) (by kernel_rfl) ?_
    exact L14 g1 g2 _ (h.below hw')
  have L03 : ∀ g1 : Nat, ∀ Y, (Ev B w (.pointer none) [] ((g1, .cells (VI .u8 kR) 5 (15, 16)) :: bx) Y ∧ ∀ p ∈ bx, p.1 ≠ g1) → wpAnyH Try.prog .any opKn10 Q (fun Y : World => Y.rangeAt p2 0 (tg.map (Value.int .u8))) 4 #[false, true, true, true, false, false, false] (((a0.put (some 35) (.agg (VI .u8 tg))).put (some 36) (.slice (some ⟨g1, 0, none⟩) 15 15)).put (some 37) (.slice (some ⟨g1, 0, none⟩) 15 15)) Y := fun g1 Y h => by
    have QE : (((a0.put (some 35) (.agg (VI .u8 tg))).put (some 36) (.slice (some ⟨g1, 0, none⟩) 15 15)).put (some 37) (.slice (some ⟨g1, 0, none⟩) 15 15)).eval (.tmp 37) = .slice (some ⟨g1, 0, none⟩) 15 15 := eval_put_eq _ _ _ (by simp only [size_put, sz]; decide)
    refine readyH2 opKn10_0 opKn10_4 (by kernel_rfl) (fun o ho hd => wpCall (v := .agg (VI .u8 (kl 32))) ho hd (args := #[]) (by simp) (fun _ => rfl) (counted_any Y) (fun w' hw' => ?_)) (fun o ho hd => wpRun (v := .slice (some ⟨Y.heap.size, 0, none⟩) 1 1) (w' := Y.alloc (.cells #[.slice (some ⟨g1, 0, none⟩) 15 15] 32)) hd (run_bsL ho QE rfl Y) ?_)
    · refine ⟨hS _ _ (h.1.below hw') (fun p hp => memr1 hp), ?_⟩
      refine wpAnyH_as (l' := #[true, true, true, true, false, false, false]) (by kernel_rfl) ?_
      exact L13 g1 _ (⟨h.1.below hw', h.2⟩)
    · have hn := h.1.new (.cells #[.slice (some ⟨g1, 0, none⟩) 15 15] 32)
      refine ⟨hS _ _ hn (fun p hp => memr2 hp), ?_⟩
      refine wpAnyH_as (l' := #[false, true, true, true, true, false, false]) (by kernel_rfl) ?_
      exact L04 g1 Y.heap.size _ hn
  have L02 : ∀ g1 : Nat, ∀ Y, (Ev B w (.pointer none) [] ((g1, .cells (VI .u8 kR) 5) :: bx) Y ∧ ∀ p ∈ bx, p.1 ≠ g1) → wpAnyH Try.prog .any opKn10 Q (fun Y : World => Y.rangeAt p2 0 (tg.map (Value.int .u8))) 5 #[false, true, true, false, false, false, false] ((a0.put (some 35) (.agg (VI .u8 tg))).put (some 36) (.slice (some ⟨g1, 0, none⟩) 15 15)) Y := fun g1 Y h => by
    have QE : ((a0.put (some 35) (.agg (VI .u8 tg))).put (some 36) (.slice (some ⟨g1, 0, none⟩) 15 15)).eval (.tmp 36) = .slice (some ⟨g1, 0, none⟩) 15 15 := eval_put_eq _ _ _ (by simp only [size_put, sz]; decide)
    refine readyH2 opKn10_0 opKn10_3 (by kernel_rfl) (fun o ho hd => wpCall (v := .agg (VI .u8 (kl 32))) ho hd (args := #[]) (by simp) (fun _ => rfl) (counted_any Y) (fun w' hw' => ?_)) (fun o ho hd => wpRun (v := .slice (some ⟨g1, 0, none⟩) 15 15) (w' := Y.freeze ⟨g1, (VI .u8 kR).size, none⟩ 1) hd (run_convM ho QE (h.1.row mem0)) ?_)
    · refine ⟨hS _ _ (h.1.below hw') (fun p hp => memr1 hp), ?_⟩
      refine wpAnyH_as (l' := #[true, true, true, false, false, false, false]) (by kernel_rfl) ?_
      exact L12 g1 _ (⟨h.1.below hw', h.2⟩)
    · have hn : Ev B w (.pointer none) [] ((g1, .cells (VI .u8 kR) 5 (15, 16)) :: bx) (Y.freeze ⟨g1, (VI .u8 kR).size, none⟩ 1) := h.1.set rfl h.2 (freeze_grow Y g1 _) (freeze_at (h.1.row mem0))
      refine ⟨hS _ _ hn (fun p hp => memr1 hp), ?_⟩
      refine wpAnyH_as (l' := #[false, true, true, true, false, false, false]) (by kernel_rfl) ?_
      exact L03 g1 _ ⟨hn, h.2⟩
  have L00 : ∀ Y, (Ev B w (.pointer none) [] bx Y) → wpAnyH Try.prog .any opKn10 Q (fun Y : World => Y.rangeAt p2 0 (tg.map (Value.int .u8))) 6 #[false, true, false, false, false, false, false] (a0.put (some 35) (.agg (VI .u8 tg))) Y := fun  Y h => by
    refine readyH2 opKn10_0 opKn10_2 (by kernel_rfl) (fun o ho hd => wpCall (v := .agg (VI .u8 (kl 32))) ho hd (args := #[]) (by simp) (fun _ => rfl) (counted_any Y) (fun w' hw' => ?_)) (fun o ho hd => wpRun (v := .slice (some ⟨Y.heap.size, 0, none⟩) 15 15) (w' := Y.alloc (.cells (VI .u8 kR) 5)) hd (run_Kn10 ho Y) ?_)
    · refine ⟨hS _ _ (h.below hw') (fun p hp => hp), ?_⟩
      refine wpAnyH_as (l' := #[true, true, false, false, false, false, false]) (by kernel_rfl) ?_
      exact L10  _ (h.below hw')
    · have hn := h.new (.cells (VI .u8 kR) 5)
      refine ⟨hS _ _ hn (fun p hp => memr1 hp), ?_⟩
      refine wpAnyH_as (l' := #[false, true, true, false, false, false, false]) (by kernel_rfl) ?_
      exact L02 Y.heap.size _ ⟨hn, fun p hp => by have := heap_lt (h.at' p hp); omega⟩
  rw [rgKn10_is]
  refine wp_region_held_drew (S := fun Y : World => Y.rangeAt p2 0 (tg.map (Value.int .u8))) (by kernel_rfl) (HS _ h0.drew) (fun hH => ?_)
  refine wpAnyH_as (l' := #[false, false, false, false, false, false, false]) (by kernel_rfl) ?_
  refine takeH (v := .agg (VI .u8 tg)) opKn10_1 opKn10_ns (by kernel_rfl) (by kernel_rfl) HPN (fun w hw o ho => run_ldT ht.len ho e2 w hw) hH ?_
  refine wpAnyH_as (l' := #[false, true, false, false, false, false, false]) (by kernel_rfl) ?_
  exact L00 _ h0.drew
end Go.Proofs.Ytgfamcadgahiiab
