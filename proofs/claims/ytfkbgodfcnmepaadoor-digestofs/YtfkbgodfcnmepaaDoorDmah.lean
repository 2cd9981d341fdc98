import Derived.Test.YtfkbgodfcnmepaaDoorDmag
import Derived.Test.YtfkbgodfcnmepaaDoorDmac
namespace Go.Proofs.YtfkbgodfcnmepaaDoor
set_option linter.unusedSimpArgs false
set_option linter.unusedVariables false
open Go.ChangeShapes Go.WideShapes Go.ChangeAt Go.RowKit Go.Pin Go.Str Go.Dig
/-! the Hash -/
def hsP (rv : Value) (size : Nat) : List Value := [rv, .int .i64 (size : Int)]
def hsQ (pr : Nat) (blk : List Int) (held : Nat) : List Value := .int .u64 (pr : Int) :: (blk.map (Value.int .u8) ++ [.int .i64 (held : Int)])
def hsO (rv : Value) (size : Nat) (st : List Nat) (pr : Nat) (blk : List Int) (held : Nat) : Obj := .cells (hsP rv size ++ (cellsW st ++ hsQ pr blk held)).toArray 67
section
variable {w : World} {g : Nat} {rv : Value} {size : Nat} {st : List Nat} {pr : Nat} {blk : List Int} {held : Nat}
theorem hs_rs (hg : w.heap[g]? = some (hsO rv size st pr blk held)) : RS w g (hsP rv size) (hsQ pr blk held) st 67 := hg
theorem hs_r (hg : w.heap[g]? = some (hsO rv size st pr blk held)) : w.cell? ⟨g, 0, none⟩ = some rv := by rw [cell_of_row w _ _ _ _ _ hg]; rfl
theorem hs_size (hg : w.heap[g]? = some (hsO rv size st pr blk held)) : w.cell? ⟨g, 1, none⟩ = some (.int .i64 (size : Int)) := by rw [cell_of_row w _ _ _ _ _ hg]; rfl
theorem hs_tail (hs : st.length = 8) (hg : w.heap[g]? = some (hsO rv size st pr blk held)) (k : Nat) : w.cell? ⟨g, 10 + k, none⟩ = (hsQ pr blk held)[k]? := by
  rw [cell_of_row w _ _ _ _ _ hg]
  simp only [List.getElem?_toArray]
  rw [List.getElem?_append_right (by simp [hsP]; omega), List.getElem?_append_right (by simp [hsP, cellsW_len, hs]; omega)]
  congr 1
  simp [hsP, cellsW_len, hs]
  omega
theorem hs_pr (hs : st.length = 8) (hg : w.heap[g]? = some (hsO rv size st pr blk held)) : w.cell? ⟨g, 10, none⟩ = some (.int .u64 (pr : Int)) := by
  have := hs_tail hs hg 0
  exact this
theorem hs_blk (hs : st.length = 8) (hb : blk.length = 64) (hg : w.heap[g]? = some (hsO rv size st pr blk held)) {i : Nat} (hi : i < 64) : w.cell? ⟨g, 11 + i, none⟩ = some (.int .u8 (blk.getD i 0)) := by
  have := hs_tail hs hg (1 + i)
  rw [show 10 + (1 + i) = 11 + i by omega] at this
  rw [this, Nat.add_comm 1 i]
  unfold hsQ
  rw [List.getElem?_cons_succ, List.getElem?_append_left (by rw [List.length_map]; omega)]
  simp [List.getD, List.getElem?_eq_getElem (show i < blk.length by omega)]
theorem hs_held (hs : st.length = 8) (hb : blk.length = 64) (hg : w.heap[g]? = some (hsO rv size st pr blk held)) : w.cell? ⟨g, 75, none⟩ = some (.int .i64 (held : Int)) := by
  have := hs_tail hs hg 65
  rw [show 10 + 65 = 75 from rfl] at this
  rw [this]
  unfold hsQ
  rw [List.getElem?_cons_succ, List.getElem?_append_right (by rw [List.length_map, hb]; decide), List.length_map, hb]
  rfl
theorem hs_froz (hg : w.heap[g]? = some (hsO rv size st pr blk held)) (j : Nat) : w.frozen? ⟨g, j, none⟩ = false := frozen_of_row w _ _ _ _ hg
theorem hs_set (hs : st.length = 8) (hg : w.heap[g]? = some (hsO rv size st pr blk held)) (k : Nat) (v : Value) : (w.setCell ⟨g, 10 + k, none⟩ v).heap[g]? = some (.cells (hsP rv size ++ (cellsW st ++ (hsQ pr blk held).set k v)).toArray 67) := by
  rw [heap_setCell_same w _ _ _ _ _ hg]
  congr 2
  rw [List.setIfInBounds_toArray]
  congr 1
  rw [List.set_append_right _ _ (by simp [hsP]; omega), List.set_append_right _ _ (by simp [hsP, cellsW_len, hs]; omega)]
  congr 3
  simp [hsP, cellsW_len, hs]
  omega
theorem hs_setPr (hs : st.length = 8) (hg : w.heap[g]? = some (hsO rv size st pr blk held)) (pr' : Nat) : (w.setCell ⟨g, 10, none⟩ (.int .u64 (pr' : Int))).heap[g]? = some (hsO rv size st pr' blk held) := hs_set hs hg 0 _
theorem hs_setHeld (hs : st.length = 8) (hb : blk.length = 64) (hg : w.heap[g]? = some (hsO rv size st pr blk held)) (h' : Nat) : (w.setCell ⟨g, 75, none⟩ (.int .i64 (h' : Int))).heap[g]? = some (hsO rv size st pr blk h') := by
  have := hs_set hs hg 65 (.int .i64 (h' : Int))
  rw [show 10 + 65 = 75 from rfl] at this
  rw [this]
  unfold hsO
  congr 5
  unfold hsQ
  rw [List.set_cons_succ, List.set_append_right _ _ (by rw [List.length_map, hb]; decide), List.length_map, hb]
  rfl
/-- bytes come into the block -/
def putb : List Int → Nat → List Int → List Int
  | L, _, [] => L
  | L, o, v :: r => putb (L.set o v) (o + 1) r
theorem putb_len : ∀ (vs L : List Int) (o : Nat), (putb L o vs).length = L.length
  | [], _, _ => rfl
  | v :: r, L, o => by rw [putb, putb_len r]; simp
theorem putb_cons : ∀ (vs L : List Int) (x : Int) (o : Nat), putb (x :: L) (o + 1) vs = x :: putb L o vs
  | [], _, _, _ => rfl
  | v :: r, L, x, o => by rw [putb, putb, List.set_cons_succ, putb_cons r]
theorem putb_zero : ∀ (vs L : List Int), vs.length ≤ L.length → putb L 0 vs = vs ++ L.drop vs.length
  | [], L, _ => rfl
  | v :: r, [], h => by simp at h
  | v :: r, x :: L, h => by
    rw [putb, List.set_cons_zero, putb_cons, putb_zero r L (by simpa using h)]
    rfl
theorem putb_at : ∀ (o : Nat) (vs L : List Int), o + vs.length ≤ L.length → putb L o vs = L.take o ++ (vs ++ L.drop (o + vs.length))
  | 0, vs, L, h => by rw [putb_zero vs L (by omega), Nat.zero_add]; rfl
  | o + 1, vs, [], h => by simp at h
  | o + 1, vs, x :: L, h => by
    rw [putb_cons, putb_at o vs L (by simp at h; omega), show o + 1 + vs.length = (o + vs.length) + 1 by omega]
    rfl
theorem hs_puts (hs : st.length = 8) : ∀ (vs : List Int) {w : World} {blk : List Int} {o : Nat}, blk.length = 64 → o + vs.length ≤ 64 → w.heap[g]? = some (hsO rv size st pr blk held) → (w.setCells g (11 + o) (vs.map (Value.int .u8))).heap[g]? = some (hsO rv size st pr (putb blk o vs) held)
  | [], _, _, _, _, _, h => h
  | v :: r, w, blk, o, hb, ho, h => by
    have h1 := hs_set hs h (1 + o) (.int .u8 v)
    rw [show 10 + (1 + o) = 11 + o by omega] at h1
    have e : (hsQ pr blk held).set (1 + o) (.int .u8 v) = hsQ pr (blk.set o v) held := by
      unfold hsQ
      simp only [List.length_cons] at ho
      rw [Nat.add_comm 1 o, List.set_cons_succ, List.set_append_left _ _ (by rw [List.length_map]; omega), List.map_set]
    rw [e] at h1
    have := hs_puts hs r (blk := blk.set o v) (o := o + 1) (by rw [List.length_set]; exact hb) (by simp only [List.length_cons] at ho; omega) h1
    exact this
end
/-- what a Hash that has taken A is -/
def HSt (rv : Value) (size : Nat) (h : List Nat) (A : List Int) (o : Obj) : Prop :=
  ∃ blk, blk.length = 64 ∧ Byb blk ∧ blk.take (hld A).length = hld A ∧ o = hsO rv size (prn h A (nbl A.length)) (64 * nbl A.length) blk (hld A).length
end Go.Proofs.YtfkbgodfcnmepaaDoor
namespace Go.Proofs.YtfkbgodfcnmepaaDoor
set_option linter.unusedSimpArgs false
set_option linter.unusedVariables false
open Go.ChangeShapes Go.WideShapes Go.ChangeAt Go.RowKit Go.Pin Go.Str Go.Dig
theorem info_u8 : (Tryd.prog.info? 5).map (·.size) = some 1 := by kernel_rfl
theorem Ev.flip {B : Nat} {w : World} {rv : Value} {l : List (Int × Int)} {bx : List (Nat × Obj)} {W : World} {p q : Nat × Obj} (h : Ev B w rv l (p :: q :: bx) W) : Ev B w rv l (q :: p :: bx) W := h.sub (fun x hx => by
  simp only [List.mem_cons] at hx ⊢
  rcases hx with h | h | h
  · exact .inr (.inl h)
  · exact .inl h
  · exact .inr (.inr h))
theorem Ev.tail {B : Nat} {w : World} {rv : Value} {l : List (Int × Int)} {bx : List (Nat × Obj)} {W : World} {p : Nat × Obj} (h : Ev B w rv l (p :: bx) W) : Ev B w rv l bx W := h.sub (fun x hx => List.mem_cons_of_mem _ hx)
theorem add_mid (b o j : Nat) : (⟨b, o, none⟩ : Addr).add j = ⟨b, o + j, none⟩ := by unfold Addr.add; split <;> simp_all
theorem run_copyX {W : World} {gd od dl dc gs os sl sc : Nat} {X : List Int} (ty : TypeId) (hn : X.length = Nat.min sl dl) (hs : W.rangeAt gs os (X.map (Value.int .u8))) (ht : W.there gd od X.length) :
    (Builtin.copy_ #[22, 22] ty #[.slice (some ⟨gd, od, none⟩) dl dc, .slice (some ⟨gs, os, none⟩) sl sc]).run Tryd.prog W = .ok (.int .i64 (X.length : Int)) (W.setCells gd od (X.map (Value.int .u8))) := by
  have := run_copy_cells (P := Tryd.prog) W 22 22 ty 5 gd od dl dc ⟨gs, os, none⟩ sl sc (X.map (Value.int .u8)) Tryd.underlying22 info_u8 (by rw [List.length_map]; exact hn)
    (fun j v hv => by rw [add_mid]; exact hs j v hv) (fun j hj => (ht j (by simpa using hj)).1) (fun j hj => (ht j (by simpa using hj)).2) (fun v hv => by
      simp only [List.mem_map] at hv
      obtain ⟨x, _, rfl⟩ := hv
      rfl)
  rw [this, List.length_map]
  rfl
theorem wpList_copy_run {P : Program} (w : World) {ops : Array Oper} {rest : List Oper} {o : Oper} {a : Act} {Q : Exit → Act → World → Prop} (hgd : o.guard = none) (d s : Operand) (t t' : TypeId)
    (ho : o.op = .call { callee := .builtin .copy, args := #[d, s], argTypes := #[t, t'] }) (v u : Value) (hd : a.eval d = v) (hs : a.eval s = u) {v' : Value} {w' : World}
    (hr : (Builtin.copy_ #[t, t'] o.type #[v, u]).run P w = .ok v' w') (h : wpList P ops Q rest (a.put o.dst v') w') : wpList P ops Q (o :: rest) a w :=
  wpList_plain hgd fun _ hK => by
    unfold Oper.wp execOp
    simp only [ho, resolve, invoke, builtin, Sem.run_bind, Sem.run_pure, Result.andThen_ok, List.map_toArray, List.map_cons, List.map_nil, hd, hs, hr]
    exact hK _ _ h
end Go.Proofs.YtfkbgodfcnmepaaDoor
namespace Go.Proofs.YtfkbgodfcnmepaaDoor
set_option linter.unusedSimpArgs false
set_option linter.unusedVariables false
open Go.ChangeShapes Go.WideShapes Go.ChangeAt Go.RowKit Go.Pin Go.Str Go.Dig
def z64 : List Int := List.replicate 64 0
theorem hst_new (rv : Value) (s : Nat) : HSt rv s (h0 s 0) [] (hsO rv s (h0 s 0) 0 z64 0) := ⟨z64, rfl, (fun x hx => by rw [(List.mem_replicate.1 hx).2]; decide), rfl, rfl⟩
theorem wr32 {x : Int} (h0 : 0 ≤ x) (h1 : x < 4294967296) : IntKind.u32.wrap x = x := by
  obtain ⟨n, rfl⟩ := Int.eq_ofNat_of_zero_le h0
  have := wrap32 n 0
  rw [show ((n : Int) + ((0 : Nat) : Int)) = (n : Int) by omega] at this
  rw [this]
  unfold ad
  omega
set_option maxRecDepth 100000 in
theorem hs_new (ra : Option Addr) (s k : Nat) {x z : Int} (hx : x = ((1779033703 ^^^ (16842752 + 256 * k + s) : Nat) : Int)) (hz : (s : Int) = z) :
    Obj.cells (((((((((((Tryd.zeroCells67.setIfInBounds 0 (Value.pointer ra)).setIfInBounds 1 (Value.int IntKind.i64 z)).setIfInBounds 2 (Value.int IntKind.u32 1779033703)).setIfInBounds 3 (Value.int IntKind.u32 3144134277)).setIfInBounds 4 (Value.int IntKind.u32 1013904242)).setIfInBounds 5 (Value.int IntKind.u32 2773480762)).setIfInBounds 6 (Value.int IntKind.u32 1359893119)).setIfInBounds 7 (Value.int IntKind.u32 2600822924)).setIfInBounds 8 (Value.int IntKind.u32 528734635)).setIfInBounds 9 (Value.int IntKind.u32 1541459225)).setIfInBounds 2 (Value.int IntKind.u32 x)) 67 = hsO (.pointer ra) s (h0 s k) 0 z64 0 := by
  subst hx hz
  kernel_rfl
theorem hst_key (rv : Value) (s : Nat) (D : List Int) (hD : 0 < D.length) (h32 : D.length ≤ 32) (hb : Byb D) : HSt rv s (h0 s D.length) (fil D) (hsO rv s (h0 s D.length) 0 (putb z64 0 D) 64) := by
  have e1 : fil D = putb z64 0 D := by
    rw [putb_zero D z64 (by simp [z64]; omega), fil, if_neg (by omega)]
    rw [z64, List.drop_replicate]
  have e2 : (fil D).length = 64 := by rw [fil_len D h32, if_neg (by omega)]
  have e3 : nbl (fil D).length = 0 := by rw [e2]; rfl
  have e4 : hld (fil D) = fil D := by unfold hld; rw [e3]; rfl
  refine ⟨fil D, e2, ?_, ?_, ?_⟩
  · intro x hx
    unfold fil at hx
    rw [if_neg (by omega)] at hx
    rcases List.mem_append.1 hx with hx | hx
    · exact hb x hx
    · rw [(List.mem_replicate.1 hx).2]; decide
  · rw [e4, List.take_length]
  · rw [e3, e4, e2, ← e1]; rfl
def nlg (D : List Int) : List (Int × Int) := [(1, 0), (1, 0), (1, 0), (1, if D.length = 0 then 0 else 1)]
/-- what New leaves -/
def NewOk (B : Nat) (w : World) (rv : Value) (l : List (Int × Int)) (bx : List (Nat × Obj)) (s : Nat) (D : List Int) (g : Nat) (w' : World) : Prop :=
  ∃ o, (∀ p ∈ bx, p.1 ≠ g) ∧ HSt rv s (h0 s D.length) (fil D) o ∧ Ev B w rv (l ++ nlg D) ((g, o) :: bx) w'
set_option maxRecDepth 100000 in
set_option maxHeartbeats 8000000 in
theorem dnew_any {B : Nat} {w : World} {ra : Option Addr} {l : List (Int × Int)} {bx : List (Nat × Obj)} {W : World} (h : Ev B w (.pointer ra) l bx W) (hl : Value.pointer ra ≠ Value.pointer none → l.length ≤ 900000) (s : Nat) (hs : 1 ≤ s ∧ s ≤ 32) (hB : Beg w) (h2 : 2 ≤ B) (kv : Value) (D : List Int) (hk : Src B w bx kv D) (h32 : D.length ≤ 32) (hD : Byb D) :
    Calls Tryd.prog 11 #[(.pointer ra), .int .i64 (s : Int), kv] W fun e w' => ∃ g, e = .returned (.tuple #[.pointer (some ⟨g, 0, none⟩), .nilIface]) ∧ NewOk B w (.pointer ra) l bx s D g w' := by
  obtain ⟨ka, cap, rfl, hcap, hsrc⟩ := hk
  have HL : Hid ((Value.pointer ra ≠ Value.pointer none → l.length ≤ 900000) ∧ 2 ≤ B ∧ Beg w ∧ 1 ≤ s ∧ s ≤ 32) := ⟨hl, h2, hB, hs⟩
  have C1 : Hid (Calls Tryd.prog 31 #[(.pointer ra), .bool false] W fun e w' => e = .returned (.bool false) ∧ Ev B w (.pointer ra) (l ++ [(1, 0)]) bx w') := v_if h (fun hr => by have := HL.out.1 hr; omega) false
  have HW : Hid (Ev B w (.pointer ra) l bx W) := h
  have HK : Hid (D.length ≤ cap ∧ (D = [] ∨ ∃ b o, ka = some ⟨b, o, none⟩ ∧ ∀ W, Below B w W → (∀ q ∈ bx, W.heap[q.1]? = some q.2) → W.rangeAt b o (D.map (Value.int .u8))) ∧ D.length ≤ 32 ∧ Byb D) := ⟨hcap, hsrc, h32, hD⟩
  obtain ⟨k, hkn⟩ : ∃ k, D.length = k := ⟨_, rfl⟩
  rw [hkn] at h32 ⊢
  have HKN : Hid (D.length = k) := hkn
  clear hkn hcap hsrc hD
  obtain ⟨z, hz⟩ : ∃ z : Int, (s : Int) = z := ⟨_, rfl⟩
  rw [hz]
  have HZ : Hid ((s : Int) = z) := hz
  have b1 : decide (z < (1 : Int)) = false := decide_eq_false (by omega)
  have b2 : decide ((32 : Int) < z) = false := decide_eq_false (by omega)
  have b3 : decide ((32 : Int) < (k : Int)) = false := decide_eq_false (by omega)
  have w1 : IntKind.u32.wrap z = z := wr32 (by omega) (by omega)
  have w2 : IntKind.u32.wrap (k : Int) = k := wr32 (by omega) (by omega)
  have w3 : IntKind.u32.wrap (256 * (k : Int)) = 256 * (k : Int) := wr32 (by omega) (by omega)
  have w4 : IntKind.u32.wrap (16842752 + 256 * (k : Int)) = 16842752 + 256 * (k : Int) := wr32 (by omega) (by omega)
  have w5 : IntKind.u32.wrap (16842752 + 256 * (k : Int) + z) = 16842752 + 256 * (k : Int) + z := wr32 (by omega) (by omega)
  have w6 : bits BinOp.xor IntKind.u32 1779033703 (16842752 + 256 * (k : Int) + z) = ((1779033703 ^^^ (16842752 + 256 * k + s) : Nat) : Int) := by
    rw [← u32_xor_nat 1779033703 (16842752 + 256 * k + s) (by decide) (by omega), ← hz]
    congr 1
  have W6 : Hid _ := w6
  clear hz hs w6
  clear h hl h2 hB h32
  go_enter Tryd.func11, Tryd.ntmps11
  go_upto_region 3 with (go_at_call 31; refine Calls.mono C1.out ?_; rintro e W1 ⟨rfl, h1⟩; have H1 : Hid _ := h1; clear h1 C1)
  have C2 : Hid (Calls Tryd.prog 31 #[(.pointer ra), .bool false] W1 fun e w' => e = .returned (.bool false) ∧ Ev B w (.pointer ra) (l ++ [(1, 0)] ++ [(1, 0)]) bx w') := v_if H1.out (fun hr => by have := HL.out.1 hr; simp only [List.length_append, List.length_cons, List.length_nil]; omega) false
  go_upto_region 5 with (go_at_call 31; refine Calls.mono C2.out ?_; rintro e W2 ⟨rfl, h2⟩; have H2 : Hid _ := h2; clear h2 C2)
  have C3 : Hid (Calls Tryd.prog 31 #[(.pointer ra), .bool false] W2 fun e w' => e = .returned (.bool false) ∧ Ev B w (.pointer ra) (l ++ [(1, 0)] ++ [(1, 0)] ++ [(1, 0)]) bx w') := v_if H2.out (fun hr => by have := HL.out.1 hr; simp only [List.length_append, List.length_cons, List.length_nil]; omega) false
  go_upto_region 7 with (go_at_call 31; refine Calls.mono C3.out ?_; rintro e W3 ⟨rfl, h3⟩; have H3 : Hid _ := h3; clear h3 C3)
  have HG := (HL.out.2.2.1.below H3.out.old HL.out.2.1).1
  have g0 : W3.cell? ⟨1, 0, none⟩ = some (.int .u32 1779033703) := HG 0 _ rfl
  have g1 : W3.cell? ⟨1, 1, none⟩ = some (.int .u32 3144134277) := HG 1 _ rfl
  have g2 : W3.cell? ⟨1, 2, none⟩ = some (.int .u32 1013904242) := HG 2 _ rfl
  have g3 : W3.cell? ⟨1, 3, none⟩ = some (.int .u32 2773480762) := HG 3 _ rfl
  have g4 : W3.cell? ⟨1, 4, none⟩ = some (.int .u32 1359893119) := HG 4 _ rfl
  have g5 : W3.cell? ⟨1, 5, none⟩ = some (.int .u32 2600822924) := HG 5 _ rfl
  have g6 : W3.cell? ⟨1, 6, none⟩ = some (.int .u32 528734635) := HG 6 _ rfl
  have g7 : W3.cell? ⟨1, 7, none⟩ = some (.int .u32 1541459225) := HG 7 _ rfl
  clear HG
  go_upto_region 8 with fail
  clear g0 g1 g2 g3 g4 g5 g6 g7
  go_region
  rw [hs_new ra s k W6.out HZ.out]
  obtain ⟨g, hg⟩ : ∃ g, W3.heap.size = g := ⟨_, rfl⟩
  have H4 : Hid (Ev B w (.pointer ra) (l ++ [(1, 0)] ++ [(1, 0)] ++ [(1, 0)]) ((g, hsO (.pointer ra) s (h0 s k) 0 z64 0) :: bx) (W3.alloc (hsO (.pointer ra) s (h0 s k) 0 z64 0)).drew) := by
    have := (H3.out.new (hsO (.pointer ra) s (h0 s k) 0 z64 0)).drew
    rw [hg] at this
    exact this
  have HN : Hid (∀ p ∈ bx, p.1 ≠ g) := fun p hp e => by have := heap_lt (H3.out.at' p hp); omega
  rw [hg]
  obtain ⟨W4, hW4⟩ : ∃ W4, (W3.alloc (hsO (.pointer ra) s (h0 s k) 0 z64 0)).drew = W4 := ⟨_, rfl⟩
  rw [hW4] at H4 ⊢
  clear hW4 hg H3
  rcases Nat.eq_zero_or_pos k with hk0 | hk0
  · have b4 : decide ((0 : Int) < (k : Int)) = false := decide_eq_false (by omega)
    have b5 : decide (0 < k) = false := decide_eq_false (by omega)
    have HK0 : Hid (k = 0) := hk0
    clear hk0
    have C5 : Hid (Calls Tryd.prog 31 #[(.pointer ra), .bool false] W4 fun e w' => e = .returned (.bool false) ∧ Ev B w (.pointer ra) (l ++ [(1, 0)] ++ [(1, 0)] ++ [(1, 0)] ++ [(1, 0)]) ((g, hsO (.pointer ra) s (h0 s k) 0 z64 0) :: bx) w') := v_if H4.out (fun hr => by have := HL.out.1 hr; simp only [List.length_append, List.length_cons, List.length_nil]; omega) false
    go_wp2_with (go_at_call 31; refine Calls.mono C5.out ?_; rintro e W5 ⟨rfl, h5⟩; have H5 : Hid _ := h5; clear h5 C5)
    go_ret2
    have e0 : D = [] := List.length_eq_zero_iff.1 (by rw [HKN.out]; exact HK0.out)
    refine ⟨g, rfl, _, HN.out, ?_, H5.out.cast ?_⟩
    · rw [HK0.out, e0]; exact hst_new _ _
    · rw [e0]; simp [nlg]
  · have b4 : decide ((0 : Int) < (k : Int)) = true := decide_eq_true (by omega)
    have b5 : decide (0 < k) = true := decide_eq_true (by omega)
    have HK0 : Hid (0 < k) := hk0
    clear hk0
    have C5 : Hid (Calls Tryd.prog 31 #[(.pointer ra), .bool true] W4 fun e w' => e = .returned (.bool true) ∧ Ev B w (.pointer ra) (l ++ [(1, 0)] ++ [(1, 0)] ++ [(1, 0)] ++ [(1, 1)]) ((g, hsO (.pointer ra) s (h0 s k) 0 z64 0) :: bx) w') := v_if H4.out (fun hr => by have := HL.out.1 hr; simp only [List.length_append, List.length_cons, List.length_nil]; omega) true
    go_upto_region 10 with (go_at_call 31; refine Calls.mono C5.out ?_; rintro e W5 ⟨rfl, h5⟩; have H5 : Hid _ := h5; clear h5 C5)
    obtain ⟨b, oo, hka, hrd⟩ : ∃ b o, ka = some ⟨b, o, none⟩ ∧ W5.rangeAt b o (D.map (Value.int .u8)) := by
      rcases HK.out.2.1 with e | ⟨b, o, e, hr⟩
      · exact absurd HKN.out (by rw [e]; have := HK0.out; simp only [List.length_nil]; omega)
      · exact ⟨b, o, e, hr W5 H5.out.old (fun p hp => H5.out.at' p (List.mem_cons_of_mem _ hp))⟩
    subst hka
    have h5g := H5.out.row mem0
    have hth : W5.there g 11 D.length := fun j hj => ⟨by rw [hs_blk rfl rfl h5g (show j < 64 by have := HK.out.2.2.1; omega)]; rfl, hs_froz h5g _⟩
    have HCP : Hid (∀ ty, (Builtin.copy_ #[22, 22] ty #[.slice (some ⟨g, 11, none⟩) 64 64, .slice (some ⟨b, oo, none⟩) k cap]).run Tryd.prog W5 = .ok (.int .i64 (D.length : Int)) (W5.setCells g 11 (D.map (Value.int .u8)))) := fun ty =>
      run_copyX (W := W5) (gd := g) (od := 11) (dl := 64) (dc := 64) (sl := k) (sc := cap) (X := D) ty (by rw [HKN.out]; have := HK.out.2.2.1; rw [HKN.out] at this; exact (Nat.min_eq_left (by omega)).symm) hrd hth
    have h6 := hs_puts (o := 0) rfl D rfl (by have := HK.out.2.2.1; omega) h5g
    have H6 : Hid (Ev B w (.pointer ra) (l ++ [(1, 0)] ++ [(1, 0)] ++ [(1, 0)] ++ [(1, 1)]) ((g, hsO (.pointer ra) s (h0 s k) 0 (putb z64 0 D) 0) :: bx) (W5.setCells g 11 (D.map (Value.int .u8)))) := H5.out.set rfl HN.out (grow_setCells g _ _ W5) h6
    clear h6 hth hrd h5g
    go_upto_region 11 with (with_reducible refine at_list ?_; first | (refine wpList_copy_run W5 rfl (.tmp 55) (.tmp 56) 22 22 rfl (.slice (some ⟨g, 11, none⟩) 64 64) (.slice (some ⟨b, oo, none⟩) k cap) rfl rfl (HCP.out _) ?_))
    obtain ⟨W6, hW6⟩ : ∃ W6, W5.setCells g 11 (D.map (Value.int .u8)) = W6 := ⟨_, rfl⟩
    rw [hW6] at H6 ⊢
    clear hW6
    have c0 := hs_held rfl (putb_len D z64 0) (H6.out.row mem0)
    have f0 := hs_froz (H6.out.row mem0) 75
    go_wp2
    go_ret2
    refine ⟨g, rfl, hsO (.pointer ra) s (h0 s k) 0 (putb z64 0 D) 64, HN.out, ?_, Ev.cast (l := l ++ [(1, 0)] ++ [(1, 0)] ++ [(1, 0)] ++ [(1, 1)]) ?_ ?_⟩
    rotate_left
    · exact H6.out.set rfl HN.out ((Grow.refl _ _).but ((But.refl (fun k => k = g) _).setCell (p := ⟨g, 75, none⟩) rfl _) (fun k hk => .inl hk)) (hs_setHeld rfl (putb_len D z64 0) (H6.out.row mem0) 64)
    · rw [nlg, if_neg (by rw [HKN.out]; exact Nat.pos_iff_ne_zero.1 HK0.out)]; simp
    · have := hst_key (.pointer ra) s D (by rw [HKN.out]; exact HK0.out) HK.out.2.2.1 HK.out.2.2.2
      rw [HKN.out] at this ⊢
      exact this
end Go.Proofs.YtfkbgodfcnmepaaDoor
namespace Go.Proofs.YtfkbgodfcnmepaaDoor
set_option linter.unusedSimpArgs false
set_option linter.unusedVariables false
open Go.ChangeShapes Go.WideShapes Go.ChangeAt Go.RowKit Go.Pin Go.Str Go.Dig
def blg (z : Int) : List (Int × Int) := if z < 1 then [(1, 1)] else if 32 < z then [(1, 0), (1, 1)] else [(1, 0), (1, 0), (1, 1)]
theorem blg1 {z : Int} {l : List (Int × Int)} (h : z < 1) : l ++ [(1, 1)] = l ++ blg z := by rw [blg, if_pos h]
theorem blg2 {z : Int} {l : List (Int × Int)} (h : 1 ≤ z ∧ 32 < z) : l ++ [(1, 0)] ++ [(1, 1)] = l ++ blg z := by rw [blg, if_neg (by omega), if_pos h.2]; simp
theorem blg3 {z : Int} {l : List (Int × Int)} (h : 1 ≤ z ∧ z ≤ 32) : l ++ [(1, 0)] ++ [(1, 0)] ++ [(1, 1)] = l ++ blg z := by rw [blg, if_neg (by omega), if_neg (by omega)]; simp
set_option maxRecDepth 100000 in
set_option maxHeartbeats 8000000 in
theorem dnew_bad1 {B : Nat} {w : World} {ra : Option Addr} {l : List (Int × Int)} {bx : List (Nat × Obj)} {W : World} (h : Ev B w (.pointer ra) l bx W) (hl : Value.pointer ra ≠ Value.pointer none → l.length ≤ 900000) (z : Int) (ev : Value) (hB : w.cell? ⟨0, 0, none⟩ = some ev) (h2 : 1 ≤ B) (ka : Option Addr) (k cap : Nat) (hz : z < 1) :
    Calls Tryd.prog 11 #[(.pointer ra), .int .i64 z, .slice ka k cap] W fun e w' => e = .returned (.tuple #[.pointer none, ev]) ∧ Ev B w (.pointer ra) (l ++ blg z) bx w' := by
  have HL : Hid ((Value.pointer ra ≠ Value.pointer none → l.length ≤ 900000) ∧ 1 ≤ B ∧ w.cell? ⟨0, 0, none⟩ = some ev) := ⟨hl, h2, hB⟩
  clear hl h2 hB
  have b1 : decide (z < (1 : Int)) = true := decide_eq_true hz
  have C1 : Hid (Calls Tryd.prog 31 #[(.pointer ra), .bool true] W fun e w' => e = .returned (.bool true) ∧ Ev B w (.pointer ra) (l ++ [(1, 1)]) bx w') := v_if h (fun hr => by have := HL.out.1 hr; omega) true
  have HZ : Hid (z < 1) := hz
  clear h hz
  go_enter Tryd.func11, Tryd.ntmps11
  go_upto_region 2 with (go_at_call 31; refine Calls.mono C1.out ?_; rintro e W1 ⟨rfl, h1⟩; have H1 : Hid _ := h1; clear h1 C1)
  have ce : W1.cell? ⟨0, 0, none⟩ = some ev := (World.cell?_of_block (a := ⟨0, 0, none⟩) (H1.out.old.block 0 (by have := HL.out.2.1; omega))).trans HL.out.2.2
  clear HL
  go_region
  go_wp2
  go_ret2
  exact ⟨rfl, H1.out.drew.cast (blg1 HZ.out)⟩
set_option maxRecDepth 100000 in
set_option maxHeartbeats 8000000 in
theorem dnew_bad2 {B : Nat} {w : World} {ra : Option Addr} {l : List (Int × Int)} {bx : List (Nat × Obj)} {W : World} (h : Ev B w (.pointer ra) l bx W) (hl : Value.pointer ra ≠ Value.pointer none → l.length ≤ 900000) (z : Int) (ev : Value) (hB : w.cell? ⟨0, 0, none⟩ = some ev) (h2 : 1 ≤ B) (ka : Option Addr) (k cap : Nat) (hz : ¬ z < 1) (hz2 : 32 < z) :
    Calls Tryd.prog 11 #[(.pointer ra), .int .i64 z, .slice ka k cap] W fun e w' => e = .returned (.tuple #[.pointer none, ev]) ∧ Ev B w (.pointer ra) (l ++ blg z) bx w' := by
  have HL : Hid ((Value.pointer ra ≠ Value.pointer none → l.length ≤ 900000) ∧ 1 ≤ B ∧ w.cell? ⟨0, 0, none⟩ = some ev) := ⟨hl, h2, hB⟩
  clear hl h2 hB
  have b1 : decide (z < (1 : Int)) = false := decide_eq_false hz
  have b2 : decide ((32 : Int) < z) = true := decide_eq_true hz2
  have C1 : Hid (Calls Tryd.prog 31 #[(.pointer ra), .bool false] W fun e w' => e = .returned (.bool false) ∧ Ev B w (.pointer ra) (l ++ [(1, 0)]) bx w') := v_if h (fun hr => by have := HL.out.1 hr; omega) false
  have HZ : Hid (1 ≤ z ∧ 32 < z) := ⟨by omega, hz2⟩
  clear h hz hz2
  go_enter Tryd.func11, Tryd.ntmps11
  go_upto_region 3 with (go_at_call 31; refine Calls.mono C1.out ?_; rintro e W1 ⟨rfl, h1⟩; have H1 : Hid _ := h1; clear h1 C1)
  have C2 : Hid (Calls Tryd.prog 31 #[(.pointer ra), .bool true] W1 fun e w' => e = .returned (.bool true) ∧ Ev B w (.pointer ra) (l ++ [(1, 0)] ++ [(1, 1)]) bx w') := v_if H1.out (fun hr => by have := HL.out.1 hr; simp only [List.length_append, List.length_cons, List.length_nil]; omega) true
  go_upto_region 4 with (go_at_call 31; refine Calls.mono C2.out ?_; rintro e W2 ⟨rfl, h2⟩; have H2 : Hid _ := h2; clear h2 C2)
  have ce : W2.cell? ⟨0, 0, none⟩ = some ev := (World.cell?_of_block (a := ⟨0, 0, none⟩) (H2.out.old.block 0 (by have := HL.out.2.1; omega))).trans HL.out.2.2
  clear HL
  go_region
  go_wp2
  go_ret2
  exact ⟨rfl, H2.out.drew.cast (blg2 HZ.out)⟩
set_option maxRecDepth 100000 in
set_option maxHeartbeats 8000000 in
theorem dnew_bad3 {B : Nat} {w : World} {ra : Option Addr} {l : List (Int × Int)} {bx : List (Nat × Obj)} {W : World} (h : Ev B w (.pointer ra) l bx W) (hl : Value.pointer ra ≠ Value.pointer none → l.length ≤ 900000) (z : Int) (ev : Value) (hB : w.cell? ⟨0, 0, none⟩ = some ev) (h2 : 1 ≤ B) (ka : Option Addr) (k cap : Nat) (hz : ¬ z < 1) (hz2 : ¬ 32 < z) (hk : 32 < k) :
    Calls Tryd.prog 11 #[(.pointer ra), .int .i64 z, .slice ka k cap] W fun e w' => e = .returned (.tuple #[.pointer none, ev]) ∧ Ev B w (.pointer ra) (l ++ blg z) bx w' := by
  have HL : Hid ((Value.pointer ra ≠ Value.pointer none → l.length ≤ 900000) ∧ 1 ≤ B ∧ w.cell? ⟨0, 0, none⟩ = some ev) := ⟨hl, h2, hB⟩
  clear hl h2 hB
  have b1 : decide (z < (1 : Int)) = false := decide_eq_false hz
  have b2 : decide ((32 : Int) < z) = false := decide_eq_false hz2
  have b3 : decide ((32 : Int) < (k : Int)) = true := decide_eq_true (by omega)
  have C1 : Hid (Calls Tryd.prog 31 #[(.pointer ra), .bool false] W fun e w' => e = .returned (.bool false) ∧ Ev B w (.pointer ra) (l ++ [(1, 0)]) bx w') := v_if h (fun hr => by have := HL.out.1 hr; omega) false
  have HZ : Hid (1 ≤ z ∧ z ≤ 32) := ⟨by omega, by omega⟩
  clear h hz hz2 hk
  go_enter Tryd.func11, Tryd.ntmps11
  go_upto_region 3 with (go_at_call 31; refine Calls.mono C1.out ?_; rintro e W1 ⟨rfl, h1⟩; have H1 : Hid _ := h1; clear h1 C1)
  have C2 : Hid (Calls Tryd.prog 31 #[(.pointer ra), .bool false] W1 fun e w' => e = .returned (.bool false) ∧ Ev B w (.pointer ra) (l ++ [(1, 0)] ++ [(1, 0)]) bx w') := v_if H1.out (fun hr => by have := HL.out.1 hr; simp only [List.length_append, List.length_cons, List.length_nil]; omega) false
  go_upto_region 5 with (go_at_call 31; refine Calls.mono C2.out ?_; rintro e W2 ⟨rfl, h2⟩; have H2 : Hid _ := h2; clear h2 C2)
  have C3 : Hid (Calls Tryd.prog 31 #[(.pointer ra), .bool true] W2 fun e w' => e = .returned (.bool true) ∧ Ev B w (.pointer ra) (l ++ [(1, 0)] ++ [(1, 0)] ++ [(1, 1)]) bx w') := v_if H2.out (fun hr => by have := HL.out.1 hr; simp only [List.length_append, List.length_cons, List.length_nil]; omega) true
  go_upto_region 6 with (go_at_call 31; refine Calls.mono C3.out ?_; rintro e W3 ⟨rfl, h3⟩; have H3 : Hid _ := h3; clear h3 C3)
  have ce : W3.cell? ⟨0, 0, none⟩ = some ev := (World.cell?_of_block (a := ⟨0, 0, none⟩) (H3.out.old.block 0 (by have := HL.out.2.1; omega))).trans HL.out.2.2
  clear HL
  go_region
  go_wp2
  go_ret2
  exact ⟨rfl, H3.out.drew.cast (blg3 HZ.out)⟩
theorem dnew_bad {B : Nat} {w : World} {ra : Option Addr} {l : List (Int × Int)} {bx : List (Nat × Obj)} {W : World} (h : Ev B w (.pointer ra) l bx W) (hl : Value.pointer ra ≠ Value.pointer none → l.length ≤ 900000) (z : Int) (ev : Value) (hB : w.cell? ⟨0, 0, none⟩ = some ev) (h2 : 1 ≤ B) (ka : Option Addr) (k cap : Nat) (hbad : z < 1 ∨ 32 < z ∨ 32 < k) :
    Calls Tryd.prog 11 #[(.pointer ra), .int .i64 z, .slice ka k cap] W fun e w' => e = .returned (.tuple #[.pointer none, ev]) ∧ Ev B w (.pointer ra) (l ++ blg z) bx w' := by
  by_cases hz : z < 1
  · exact dnew_bad1 h hl z ev hB h2 ka k cap hz
  · by_cases hz2 : 32 < z
    · exact dnew_bad2 h hl z ev hB h2 ka k cap hz hz2
    · exact dnew_bad3 h hl z ev hB h2 ka k cap hz hz2 (by omega)
end Go.Proofs.YtfkbgodfcnmepaaDoor
namespace Go.Proofs.YtfkbgodfcnmepaaDoor
set_option linter.unusedSimpArgs false
set_option linter.unusedVariables false
open Go.ChangeShapes Go.WideShapes Go.ChangeAt Go.RowKit Go.Pin
section
variable {P : Program} {ops : Array Oper} {Q : Exit → Act → World → Prop} {S : World → Prop} {fuel : Nat} {listed : Array Bool} {a : Act} {w : World}
theorem wp_of_run {o : Oper} {v : Value} {K : Act → World → Prop} (hrun : (execOp a.eval o).run P w = .ok (.value v) w) (h : K (a.put o.dst v) w) : Oper.wp P o a w K Q := by
  unfold Oper.wp
  rw [hrun]
  exact h
/-- one operation that yields a value alone may come up -/
theorem readyLd1 {i : Nat} {op : Op} {d : Nat} {v : Value} (hc : opIs ops i op (some d)) (hr : Region.ready .any ops listed = [i]) (hS : S w)
    (hrun : ∀ o : Oper, o.op = op → (execOp a.eval o).run P w = .ok (.value v) w) (h : wpAnyH P .any ops Q S fuel (listed.setIfInBounds i true) (a.put (some d) v) w) : wpAnyH P .any ops Q S (fuel + 1) listed a w :=
  readyH hc hr (fun o h1 h2 => wp_of_run (hrun o h1) ⟨hS, by rw [h2]; exact h⟩)
/-- two of them, in either order -/
theorem readyLd2 {i j : Nat} {op oq : Op} {d e : Nat} {v u : Value} (hi : opIs ops i op (some d)) (hj : opIs ops j oq (some e)) (hde : d ≠ e) (hij : i ≠ j) (hr : Region.ready .any ops listed = [i, j])
    (hr1 : Region.ready .any ops (listed.setIfInBounds i true) = [j]) (hr2 : Region.ready .any ops (listed.setIfInBounds j true) = [i]) (hS : S w)
    (run1 : ∀ o : Oper, o.op = op → (execOp a.eval o).run P w = .ok (.value v) w) (run2 : ∀ o : Oper, o.op = oq → (execOp a.eval o).run P w = .ok (.value u) w)
    (run1' : ∀ o : Oper, o.op = op → (execOp (a.put (some e) u).eval o).run P w = .ok (.value v) w) (run2' : ∀ o : Oper, o.op = oq → (execOp (a.put (some d) v).eval o).run P w = .ok (.value u) w)
    (h : wpAnyH P .any ops Q S fuel ((listed.setIfInBounds i true).setIfInBounds j true) ((a.put (some d) v).put (some e) u) w) : wpAnyH P .any ops Q S (fuel + 2) listed a w := by
  obtain ⟨o1, h1, g1, p1, q1⟩ := hi.get
  obtain ⟨o2, h2, g2, p2, q2⟩ := hj.get
  refine wpAnyH_all hr (by simp) (fun k hk => ?_)
  simp only [List.mem_cons, List.not_mem_nil, or_false] at hk
  rcases hk with rfl | rfl
  · unfold wpOp
    simp only [h1]
    rw [if_pos (wanted_none g1 _)]
    refine .inl (wp_of_run (run1 o1 p1) ⟨hS, ?_⟩)
    rw [q1]
    exact readyLd1 hj hr1 hS run2' h
  · unfold wpOp
    simp only [h2]
    rw [if_pos (wanted_none g2 _)]
    refine .inl (wp_of_run (run2 o2 p2) ⟨hS, ?_⟩)
    rw [q2]
    refine readyLd1 hi hr2 hS run1' ?_
    have e1 : (a.put (some e) u).put (some d) v = (a.put (some d) v).put (some e) u := by
      simp only [Act.put]
      rw [Array.setIfInBounds_comm _ _ (fun e' => hde e'.symm)]
    rw [e1, Array.setIfInBounds_comm _ _ (fun e' => hij e'.symm)]
    exact h
end
end Go.Proofs.YtfkbgodfcnmepaaDoor
