import Derived.Test.YtgfamcadgahiiabMacD
import Derived.Test.YtgfamcadgahiiabMacBt
namespace Go.Proofs.Ytgfamcadgahiiab
set_option linter.unusedSimpArgs false
set_option linter.unusedVariables false
open Go.ChangeShapes Go.WideShapes Go.ChangeAt Go.RowKit Go.Pin Go.Prm
/-- 32 bytes -/
structure Key32 (b : List Int) : Prop where
  len : b.length = 32
  bd : Byt b
/-- the Mac of a key that has taken D -/
def mst (rv : Value) (key D : List Int) : Obj := macO rv (rOf key) (sOf key) (acc (rOf key) z5 D) (rst D ++ List.replicate (17 - (rst D).length) 0) (rst D).length
theorem Key32.lo {key : List Int} (h : Key32 key) : Key16 (key.take 16) := ⟨by rw [List.length_take, h.len]; rfl, fun x hx => h.bd x (List.mem_of_mem_take hx)⟩
theorem Key32.hi {key : List Int} (h : Key32 key) : Key16 (sOf key) := ⟨by unfold sOf; rw [List.length_drop, h.len], fun x hx => h.bd x (List.mem_of_mem_drop hx)⟩
theorem fill_key {D : List Int} (h : Byt D) (hl : D.length ≤ 17) : Key17 (D ++ List.replicate (17 - D.length) 0) := ⟨by simp; omega, fun x hx => by
  rcases List.mem_append.1 hx with hx | hx
  · exact h x hx
  · rw [(List.mem_replicate.1 hx).2]; decide⟩
theorem mst_ms {key D : List Int} (hk : Key32 key) (hD : Byt D) : MS (rOf key) (sOf key) (acc (rOf key) z5 D) (rst D ++ List.replicate (17 - (rst D).length) 0) :=
  ⟨rOf_lim hk.len hk.bd, hk.hi, acc_lim (rOf_lim hk.len hk.bd) z5_lim hD, fill_key (rst_byt hD) (by rw [rst_len]; omega)⟩
theorem mst_zero (rv : Value) (key : List Int) : mst rv key [] = macO rv (rOf key) (sOf key) z5 z17 0 := rfl
theorem run_boxM {a : Act} {o : Oper} {x : Operand} {rv : Value} {r m s b : List Int} {h : Nat} (ho : o.op = .box 73 x) (he : a.eval x = .agg (macL rv r m s b h).toArray) (w : World) : (execOp a.eval o).run Try.prog w = .ok (.value (.pointer (some ⟨w.heap.size, 0, none⟩))) (w.alloc (macO rv r m s b h)) := by
  unfold execOp
  simp only [ho, he]
  go_simp
  rfl
theorem range_part {W : World} {g : Nat} {L : List Int} {T : TypeId} {fr : Nat × Nat} (h : W.heap[g]? = some (.cells (VI .u8 L) T fr)) (o : Nat) (ho : o ≤ L.length) : W.rangeAt g o ((L.drop o).map (Value.int .u8)) := by
  have := range_row' h o (L.length - o) (by omega)
  rw [List.take_of_length_le (by simp)] at this
  exact this
set_option maxRecDepth 100000 in
set_option maxHeartbeats 4000000 in
theorem mnew_any {B : Nat} {w : World} {rv : Value} {l : List (Int × Int)} {bx : List (Nat × Obj)} {W : World} (h : Ev B w rv l bx W) {key : List Int} (hk : Key32 key) :
    Calls Try.prog 13 #[rv, .agg (VI .u8 key)] W fun e w' => ∃ g, e = .returned (.pointer (some ⟨g, 0, none⟩)) ∧ W.heap.size ≤ g ∧ Ev B w rv l ((g, mst rv key []) :: bx) w' := by
  obtain ⟨ra, hra⟩ : ∃ ra, rv = .pointer ra := by
    rcases h.rc with e | ⟨R, vs, e, _⟩
    · exact ⟨_, e⟩
    · exact ⟨_, e⟩
  subst hra
  obtain ⟨q, hq⟩ : ∃ q, W.heap.size = q := ⟨_, rfl⟩
  have e3 := h.new (.cells (VI .u8 key) 23)
  obtain ⟨W0, hW0⟩ : ∃ V, W.alloc (.cells (VI .u8 key) 23) = V := ⟨_, rfl⟩
  rw [hW0, hq] at e3
  have hq0 : q < W0.heap.size := by rw [← hW0, size_alloc]; omega
  rw [hq]
  have E3 : Hid _ := e3
  have HK : Hid (Key32 key ∧ q < W0.heap.size) := ⟨hk, hq0⟩
  clear e3 h hk hq0
  have HI : Hid ((Try.prog.info? 23).map (·.size) = some (VI .u8 key).size) := by
    have : (Try.prog.info? 23).map (·.size) = some (VI .u8 key).size := by rw [VI_size, HK.out.1.len]; kernel_rfl
    exact this
  go_enter Try.func13, Try.ntmps13
  go_upto_region 1 with fail
  refine wp_as (c' := rgNe1) (by kernel_rfl) ?_
  have hS : ∀ Y, Ev B w (.pointer ra) l ((q, .cells (VI .u8 key) 23) :: bx) Y → Y.rangeAt q 0 ((key.take 16).map (Value.int .u8)) ∧ Y.rangeAt q 16 ((key.drop 16).map (Value.int .u8)) := fun Y h => by
    have h0 := range_row' (h.row mem0) 0 16 (by rw [HK.out.1.len]; omega)
    exact ⟨h0, range_part (h.row mem0) 16 (by rw [HK.out.1.len]; omega)⟩
  refine Ne1 (q := q) (ra := ra) (key := key) (z := rOf key)
    (R0 := fun Y => Ev B w (.pointer ra) l ((q, .cells (VI .u8 key) 23) :: bx) Y ∧ q < Y.heap.size) (R1 := fun Y => Ev B w (.pointer ra) l ((q, .cells (VI .u8 key) 23) :: bx) Y ∧ q < Y.heap.size)
    (R2 := fun gg Y => q ≤ gg ∧ Ev B w (.pointer ra) l ((gg, mst (.pointer ra) key []) :: (q, .cells (VI .u8 key) 23) :: bx) Y)
    ⟨HK.out.1.lo.len, HK.out.1.hi.len⟩ (rOf_lim HK.out.1.len HK.out.1.bd).len ⟨E3.out.drew, HK.out.2⟩ (fun Y h => hS Y h.1) ?_ (fun Y h => hS Y h.1) ?_ (fun gg Y h => hS Y h.2.tail) (fun _ _ d _ _ h => by cases d <;> exact h) ?_
  · exact fun Y h => (clamp_any (key.take 16) HK.out.1.lo Y).mono fun e w' hh => ⟨hh.1, h.1.below hh.2, Nat.lt_of_lt_of_le h.2 hh.2.size⟩
  · intro Y ⟨h, hlt⟩ a o K Q ho hd hx hK
    refine wpRun hd (run_boxM ho hx Y) (hK Y.heap.size _ ⟨Nat.le_of_lt hlt, ?_⟩)
    rw [mst_zero]
    exact h.new _
  intro gg W9 h9
  have HF : Hid (q ≤ gg ∧ Ev B w (.pointer ra) l ((gg, mst (.pointer ra) key []) :: bx) W9) := ⟨h9.1, h9.2.flip.tail⟩
  clear h9
  go_wp2
  go_ret
  exact ⟨gg, rfl, HF.out⟩
end Go.Proofs.Ytgfamcadgahiiab
