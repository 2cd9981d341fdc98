import Derived.Test.YtfkbgodfcnmepabDoorDgT
import Derived.Test.YtfkbgodfcnmepabDoorDgO
namespace Go.Dig
/-- how many of a bytes are held -/
def hl (a : Nat) : Nat := a - 64 * nbl a
theorem hld_hl (A : List Int) : (hld A).length = hl A.length := hld_len A
theorem hl_le (a : Nat) : hl a ≤ 64 := by unfold hl nbl; omega
end Go.Dig
namespace Go.Proofs.YtfkbgodfcnmepabDoor
set_option linter.unusedSimpArgs false
set_option linter.unusedVariables false
open Go.ChangeShapes Go.WideShapes Go.ChangeAt Go.RowKit Go.Pin Go.Str Go.Dig
/-- what the pieces' Writes log -/
def plog : Nat → Nat → List Nat → List (Int × Int)
  | _, _, [] => []
  | a, i, n :: r => (1, 1) :: (2, (i : Int)) :: (wl (hl a) n ++ plog (a + n) (i + 1) r)
theorem plog_snoc : ∀ (ns : List Nat) (a i n : Nat), plog a i (ns ++ [n]) = plog a i ns ++ ((1, 1) :: (2, ((i + ns.length : Nat) : Int)) :: wl (hl (a + ns.sum)) n)
  | [], a, i, n => by simp [plog]
  | m :: r, a, i, n => by
    have := plog_snoc r (a + m) (i + 1) n
    rw [List.cons_append, plog, this, plog]
    have e1 : i + 1 + r.length = i + (m :: r).length := by simp; omega
    have e2 : a + m + r.sum = a + (m :: r).sum := by simp; omega
    rw [e1, e2]
    simp
theorem plog_len : ∀ (l : List Nat) (a i : Nat), (plog a i l).length ≤ 13 * l.length + l.sum
  | [], a, i => by simp [plog]
  | n :: r, a, i => by
    have h1 := wl_short (hl a) n (hl_le a)
    have h2 := plog_len r (a + n) (i + 1)
    simp [plog]
    omega
/-- what Of logs -/
def olg (ns : List Nat) : List (Int × Int) := nlg [] ++ plog 0 0 ns ++ [(1, 0), (2, ((hl ns.sum : Nat) : Int)), (3, 31)]
theorem flat_len (Ds : List (List Int)) : Ds.flatten.length = (Ds.map List.length).sum := by rw [List.length_flatten]
theorem take_snocL (Ds : List (List Int)) (i : Nat) (h : i < Ds.length) : Ds.take (i + 1) = Ds.take i ++ [Ds.getD i []] := by
  rw [List.take_add_one, List.getD_eq_getElem?_getD, List.getElem?_eq_getElem h]
  rfl
theorem BytL.at {Ds : List (List Int)} (h : BytL Ds) (i : Nat) : Byt (Ds.getD i []) := by
  rw [List.getD_eq_getElem?_getD]
  cases he : Ds[i]? with
  | none => intro x hx; cases hx
  | some D => exact h D (List.mem_of_getElem? he)
theorem BytL.flat {Ds : List (List Int)} (h : BytL Ds) : Byt Ds.flatten := fun x hx => by
  obtain ⟨D, hD, hx⟩ := List.mem_flatten.1 hx
  exact h D hD x hx
theorem BytL.take {Ds : List (List Int)} (h : BytL Ds) (i : Nat) : BytL (Ds.take i) := fun D hD => h D (List.mem_of_mem_take hD)
theorem take_sum : ∀ (Ds : List (List Int)) (i : Nat), (Ds.take i).flatten.length + (Ds.getD i []).length ≤ Ds.flatten.length
  | [], i => by simp
  | D :: r, 0 => by simp
  | D :: r, i + 1 => by
    have := take_sum r i
    simp at this ⊢
    omega
theorem wrapS {i n : Nat} (h : i < n) (hn : n ≤ maxLen) : wrap64 ((i : Int) + 1) = (i : Int) + 1 := IntWalk.wrap64_in _ ⟨by omega, by unfold maxLen at hn; omega⟩
theorem measS {i n : Nat} (h : i < n) (hn : n ≤ maxLen) : n - (intOf (.int .i64 (wrap64 ((i : Int) + 1)))).toNat < n - (intOf (.int .i64 (i : Int))).toNat := by
  rw [wrapS h hn]
  simp only [intOf]
  omega
theorem infoK : (Tryd.prog.info? 40).map (·.size) = some 32 := by kernel_rfl

theorem store_rowI {P : Program} {ops : Array Oper} {rest : List Oper} {op : Oper} {a : Act} {w : World} {Q : Exit → Act → World → Prop} (hgd : op.guard = none) (ty : TypeId) (x y : Operand) (ho : op.op = .store ty x y)
    (g : Nat) (k : IntKind) (L : List Int) (hx : a.eval x = .pointer (some ⟨g, 0, none⟩)) (hy : a.eval y = .agg (VI k L)) (ht : w.there g 0 L.length) (hi : (P.info? ty).map (·.size) = some L.length) (hd : op.dst = none)
    (h : wpList P ops Q rest a (w.setCells g 0 (VI k L).toList)) : wpList P ops Q (op :: rest) a w :=
  wpList_store_mid hgd ty x y ho g 0 (VI k L) hx hy (by rw [VI_size]; exact ht) (by rw [VI_size]; exact hi) (VI_one _ _) (by rw [hd]; exact h)
theorem row_there {W : World} {g : Nat} {k : IntKind} {L : List Int} {T : TypeId} (h : W.heap[g]? = some (.cells (VI k L) T)) : W.there g 0 L.length := fun j hj => by
  refine ⟨?_, frozen_of_row W _ _ _ _ h⟩
  rw [Nat.zero_add, cell_of_row W _ _ _ _ _ h, VI_at _ _ _ hj]
  rfl
theorem Ev.storeRow {B : Nat} {w : World} {rv : Value} {l : List (Int × Int)} {bx : List (Nat × Obj)} {W : World} {g : Nat} {k : IntKind} {L L' : List Int} {T : TypeId} (h : Ev B w rv l ((g, .cells (VI k L) T) :: bx) W) (hne : ∀ p ∈ bx, p.1 ≠ g) (hl : L'.length = L.length) : Ev B w rv l ((g, .cells (VI k L') T) :: bx) (W.setCells g 0 (VI k L').toList) := by
  refine h.set rfl hne (grow_setCells g _ 0 W) ?_
  have h0 : W.heap[g]? = some (.cells ([] ++ (L.map (Value.int k) ++ [])).toArray T) := by simpa [VI] using h.row (List.mem_cons_self ..)
  have := heap_setCells_row g (L'.map (Value.int k)) _ _ _ W (by simpa using hl) h0
  simpa [VI] using this
theorem row_rangeD {W : World} {g : Nat} {L : List Int} {T : TypeId} {fr : Nat × Nat} (h : W.heap[g]? = some (.cells (VI .u8 L) T fr)) : W.rangeAt g 0 (L.map (Value.int .u8)) := by
  have := range_row' h 0 L.length (by omega)
  rw [List.drop_zero, List.take_length] at this
  exact this
theorem dwrite_src {B : Nat} {w : World} {rv : Value} {l : List (Int × Int)} {bx : List (Nat × Obj)} {W : World} {g s : Nat} {h : List Nat} {A D blk : List Int} {v : Value} (hS : HSb A blk) (hE : Ev B w rv l ((g, hst rv s h A blk) :: bx) W) (hh : S8 h) (hl : rv ≠ .pointer none → l.length + D.length ≤ 800000) (hne : ∀ p ∈ bx, p.1 ≠ g) (hsrc : Src B w bx v D) (hDb : Byb D) (hlen : A.length + D.length < 4611686018427387904) (hB : Beg w) (h2 : 2 ≤ B) :
    Calls Tryd.prog 8 #[.pointer (some ⟨g, 0, none⟩), v] W fun e w' => e = .returned (.tuple #[]) ∧ WrOk B w rv l (wl (hld A).length D.length) bx g s h (A ++ D) w' := by
  obtain ⟨a, cap, rfl, _⟩ := id hsrc
  exact dwrite_any hS hE hh hl hne hsrc hDb hlen hB h2
set_option maxRecDepth 100000 in
set_option maxHeartbeats 4000000 in
theorem dof_any {B : Nat} {w : World} {ra : Option Addr} {l : List (Int × Int)} {bx : List (Nat × Obj)} {W : World} (h : Ev B w (.pointer ra) l bx W) {a : Option Addr} {n cap : Nat} {Ds : List (List Int)} (hP : PSrc B w bx a n Ds) (hD : BytL Ds) (hl : Value.pointer ra ≠ .pointer none → l.length + 25 * n + Ds.flatten.length ≤ 600000) (hlen : Ds.flatten.length < 4611686018427387904) (hB : Beg w) (h2 : 2 ≤ B) :
    Calls Tryd.prog 13 #[(.pointer ra), .slice a n cap] W fun e w' => e = .returned (.agg (VI .u8 (dig 32 [] Ds.flatten))) ∧ Ev B w (.pointer ra) (l ++ olg (Ds.map List.length)) bx w' := by
  obtain ⟨q, hq⟩ : ∃ q, W.heap.size = q := ⟨_, rfl⟩
  have e3 := h.new (.cells (VI .u8 (List.replicate 32 0)) 40)
  rw [hq] at e3
  have hbxq : ∀ p ∈ bx, p.1 < q := fun p hp => by rw [← hq]; exact heap_lt (h.at' p hp)
  have CN : Hid (Calls Tryd.prog 5 #[(.pointer ra), .int .i64 32, .slice none 0 0] (W.alloc (.cells (VI .u8 (List.replicate 32 0)) 40)) fun e w' => ∃ g, e = .returned (.tuple #[.pointer (some ⟨g, 0, none⟩), .nilIface]) ∧ NewOk B w (.pointer ra) l ((q, .cells (VI .u8 (List.replicate 32 0)) 40) :: bx) 32 [] g w') := dnew_any e3 (fun hr => by have := hl hr; omega) 32 ⟨by decide, by decide⟩ hB h2 (.slice none 0 0) [] ⟨none, 0, rfl, Nat.le_refl _, .inl rfl⟩ (by decide) (by intro x hx; cases hx)
  have HL : Hid ((Value.pointer ra ≠ .pointer none → l.length + 25 * n + Ds.flatten.length ≤ 600000) ∧ BytL Ds ∧ (∀ p ∈ bx, p.1 < q) ∧ PSrc B w bx a n Ds ∧ Ds.flatten.length < 4611686018427387904 ∧ Beg w ∧ 2 ≤ B) := ⟨hl, hD, hbxq, hP, hlen, hB, h2⟩
  obtain ⟨W0, hW0⟩ : ∃ V, W.alloc (.cells (VI .u8 (List.replicate 32 0)) 40) = V := ⟨_, rfl⟩
  rw [hW0] at CN
  clear e3 h hP hD hl hbxq hlen hB h2
  go_enter Tryd.func13, Tryd.ntmps13
  go_upto_region 1 with fail
  have hW0' : W.alloc (.cells #[Value.int IntKind.u8 0, Value.int IntKind.u8 0, Value.int IntKind.u8 0, Value.int IntKind.u8 0, Value.int IntKind.u8 0, Value.int IntKind.u8 0, Value.int IntKind.u8 0, Value.int IntKind.u8 0, Value.int IntKind.u8 0, Value.int IntKind.u8 0, Value.int IntKind.u8 0, Value.int IntKind.u8 0, Value.int IntKind.u8 0, Value.int IntKind.u8 0, Value.int IntKind.u8 0, Value.int IntKind.u8 0, Value.int IntKind.u8 0, Value.int IntKind.u8 0, Value.int IntKind.u8 0, Value.int IntKind.u8 0, Value.int IntKind.u8 0, Value.int IntKind.u8 0, Value.int IntKind.u8 0, Value.int IntKind.u8 0, Value.int IntKind.u8 0, Value.int IntKind.u8 0, Value.int IntKind.u8 0, Value.int IntKind.u8 0, Value.int IntKind.u8 0, Value.int IntKind.u8 0, Value.int IntKind.u8 0, Value.int IntKind.u8 0] 40) = W0 := hW0
  rw [hW0']
  clear hW0 hW0' hq
  go_wp2_with (go_at_call 5; refine Calls.mono CN.out ?_; rintro e W1 ⟨g, rfl, h1⟩; have H1 : Hid _ := h1; clear h1 CN)
  obtain ⟨o, hng, hho, he1⟩ := H1.out
  obtain ⟨blk0, hb0, rfl⟩ := hho.blk
  have HG : Hid (∀ p ∈ (q, .cells (VI .u8 (List.replicate 32 0)) 40) :: bx, p.1 ≠ g) := hng
  have HE1 : Hid (HSb [] blk0 ∧ Ev B w (.pointer ra) (l ++ nlg []) ((g, hst (.pointer ra) 32 (h0 32 0) [] blk0) :: (q, .cells (VI .u8 (List.replicate 32 0)) 40) :: bx) W1) := ⟨hb0, he1⟩
  clear hng hho he1 hb0 H1
  go_loopw [7] (fun v w' => ∃ (i : Nat) (blk : List Int), i ≤ n ∧ v = .int .i64 (i : Int) ∧ HSb (Ds.take i).flatten blk ∧ Ev B w (.pointer ra) (l ++ nlg [] ++ plog 0 0 ((Ds.take i).map List.length)) ((g, (hst (.pointer ra) 32 (h0 32 0) (Ds.take i).flatten blk)) :: (q, .cells (VI .u8 (List.replicate 32 0)) 40) :: bx) w') (fun v _ => n - (intOf v).toNat)
  case atStart => exact ⟨0, blk0, Nat.zero_le _, rfl, HE1.out.1, HE1.out.2.cast (by simp [plog])⟩
  case round =>
    clear HE1
    obtain ⟨i, blk, hi, rfl, hsb, he⟩ := hrel
    have HSB : Hid (HSb (Ds.take i).flatten blk) := hsb
    have hpl : (plog 0 0 ((Ds.take i).map List.length)).length ≤ 13 * n + (Ds.take i).flatten.length := by
      have h1 := plog_len ((Ds.take i).map List.length) 0 0
      rw [← flat_len] at h1
      have h2 : ((Ds.take i).map List.length).length ≤ n := by rw [List.length_map, List.length_take]; omega
      omega
    have htl := take_sum Ds i
    have HLN : Hid ((Value.pointer ra ≠ .pointer none → (l ++ nlg [] ++ plog 0 0 ((Ds.take i).map List.length)).length + 30 + (Ds.getD i []).length ≤ 700000) ∧ (Ds.take i).flatten.length + (Ds.getD i []).length < 4611686018427387904) := by
      have : (Value.pointer ra ≠ .pointer none → (l ++ nlg [] ++ plog 0 0 ((Ds.take i).map List.length)).length + 30 + (Ds.getD i []).length ≤ 700000) ∧ (Ds.take i).flatten.length + (Ds.getD i []).length < 4611686018427387904 := ⟨fun hr => by
        have := HL.out.1 hr
        rw [List.length_append, List.length_append]
        simp only [nlg, List.length_cons, List.length_nil]
        omega, by have := HL.out.2.2.2.2.1; omega⟩
      exact this
    by_cases hlt : i < n
    · have b1 : decide ((i : Int) < (n : Int)) = true := decide_eq_true (by omega)
      have b2 : decide (i < n) = true := decide_eq_true hlt
      have b3 : (i : Int) < (n : Int) := by omega
      have CI : Hid (Calls Tryd.prog 16 #[(.pointer ra), .bool true] wr fun e w' => e = .returned (.bool true) ∧ Ev B w (.pointer ra) (l ++ nlg [] ++ plog 0 0 ((Ds.take i).map List.length) ++ [(1, 1)]) ((g, (hst (.pointer ra) 32 (h0 32 0) (Ds.take i).flatten blk)) :: (q, .cells (VI .u8 (List.replicate 32 0)) 40) :: bx) w') := v_if he (fun hr => by have := HLN.out.1 hr; omega) true
      obtain ⟨b, oo, u, rfl, hcu, hsu⟩ := HL.out.2.2.2.1.2 i hlt
      have HU : Hid ((∀ W, Below B w W → (∀ q ∈ bx, W.heap[q.1]? = some q.2) → W.cell? ⟨b, oo + i, none⟩ = some u) ∧ Src B w bx u (Ds.getD i [])) := ⟨hcu, hsu⟩
      have HN : Hid (i < n) := hlt
      have HW1 : Hid (wrap64 ((i : Int) + 1) = (i : Int) + 1) := wrapS hlt HL.out.2.2.2.1.1.2
      clear he hcu hsu hpl htl hi hsb
      go_wp2_with (first | (go_at_call 16; refine Calls.mono CI.out ?_; rintro e W2 ⟨rfl, h2⟩; have CA : Hid (Calls Tryd.prog 19 #[(.pointer ra), .int .i64 (i : Int)] W2 fun e w' => e = .returned (.int .i64 (i : Int)) ∧ Ev B w (.pointer ra) (l ++ nlg [] ++ plog 0 0 ((Ds.take i).map List.length) ++ [(1, 1)] ++ [(2, (i : Int))]) ((g, (hst (.pointer ra) 32 (h0 32 0) (Ds.take i).flatten blk)) :: (q, .cells (VI .u8 (List.replicate 32 0)) 40) :: bx) w') := v_at h2 (fun hr => by have := HLN.out.1 hr; simp at this ⊢; omega) (i : Int); clear h2 CI) | (go_at_call 19; refine Calls.mono CA.out ?_; rintro e W3 ⟨rfl, h3⟩; have c3 := HU.out.1 W3 h3.old (fun q hq => h3.row (memr2 hq)); have CW : Hid (Calls Tryd.prog 8 #[.pointer (some ⟨g, 0, none⟩), u] W3 fun e w' => e = .returned (.tuple #[]) ∧ WrOk B w (.pointer ra) (l ++ nlg [] ++ plog 0 0 ((Ds.take i).map List.length) ++ [(1, 1)] ++ [(2, (i : Int))]) (wl (hld (Ds.take i).flatten).length (Ds.getD i []).length) ((q, .cells (VI .u8 (List.replicate 32 0)) 40) :: bx) g 32 (h0 32 0) ((Ds.take i).flatten ++ Ds.getD i []) w') := dwrite_src HSB.out h3 (h0_s8 (by decide) (by decide)) (fun hr => by have := HLN.out.1 hr; simp at this ⊢; omega) HG.out (HU.out.2.sub (fun p hp => memr1 hp)) (HL.out.2.1.at i) HLN.out.2 HL.out.2.2.2.2.2.1 HL.out.2.2.2.2.2.2; clear h3 CA) | (go_at_call 8; refine Calls.mono CW.out ?_; rintro e W4 ⟨rfl, h4⟩; have H4 : Hid _ := h4; clear h4 CW))
      go_roundw
      case rel =>
        obtain ⟨blk4, hb4, h4⟩ := H4.out
        have hsn := take_snocL Ds i (by rw [HL.out.2.2.2.1.1.1]; exact HN.out)
        have hfl : (Ds.take (i + 1)).flatten = (Ds.take i).flatten ++ Ds.getD i [] := by rw [hsn, List.flatten_append]; simp
        refine ⟨i + 1, blk4, HN.out, by rw [HW1.out]; exact congrArg (Value.int .i64) (by omega), by rw [hfl]; exact hb4, ?_⟩
        rw [hfl]
        refine h4.cast ?_
        rw [hsn, List.map_append, List.map_cons, List.map_nil, plog_snoc]
        have e1 : ((Ds.take i).map List.length).length = i := by rw [List.length_map, List.length_take, HL.out.2.2.2.1.1.1]; have := HN.out; omega
        have e2 : ((Ds.take i).map List.length).sum = (Ds.take i).flatten.length := (flat_len _).symm
        rw [e1, e2, hld_hl]
        simp only [List.append_assoc, Nat.zero_add, List.cons_append, List.nil_append]
      case measure => exact measS HN.out HL.out.2.2.2.1.1.2
    · have b1 : decide ((i : Int) < (n : Int)) = false := decide_eq_false (by omega)
      have b2 : decide (i < n) = false := decide_eq_false hlt
      have b3 : ¬ (i : Int) < (n : Int) := by omega
      have et : Ds.take i = Ds := List.take_of_length_le (by rw [HL.out.2.2.2.1.1.1]; omega)
      have CI : Hid (Calls Tryd.prog 16 #[(.pointer ra), .bool false] wr fun e w' => e = .returned (.bool false) ∧ Ev B w (.pointer ra) (l ++ nlg [] ++ plog 0 0 ((Ds.take i).map List.length) ++ [(1, 0)]) ((g, (hst (.pointer ra) 32 (h0 32 0) (Ds.take i).flatten blk)) :: (q, .cells (VI .u8 (List.replicate 32 0)) 40) :: bx) w') := v_if he (fun hr => by have := HLN.out.1 hr; omega) false
      rw [et] at CI HLN HSB
      have HR : Hid ((dig 32 [] Ds.flatten) = spl (dgw (h0 32 0) Ds.flatten) 32 ∧ (dig 32 [] Ds.flatten).length = 32) := ⟨rfl, dig_len _ _ _⟩
      clear he hpl htl hi hsb et
      have hap := fun g2 w => run_arrayAt (P := Tryd.prog) (w := w) 40 5 32 (some ⟨g2, 0, none⟩) 32 32 Tryd.underlying40 (Nat.le_refl _)
      go_wp2_with (first | (go_at_call 16; refine Calls.mono CI.out ?_; rintro e W2 ⟨rfl, h2⟩; have CT : Hid (Calls Tryd.prog 9 #[.pointer (some ⟨g, 0, none⟩)] W2 fun e w' => ∃ g2, e = .returned (.slice (some ⟨g2, 0, none⟩) 32 32) ∧ SuOk B w (.pointer ra) (l ++ nlg [] ++ plog 0 0 (Ds.map List.length) ++ [(1, 0)] ++ [(2, ((hld Ds.flatten).length : Int)), (3, 31)]) ((g, (hst (.pointer ra) 32 (h0 32 0) Ds.flatten blk)) :: (q, .cells (VI .u8 (List.replicate 32 0)) 40) :: bx) (dig 32 [] Ds.flatten) g2 w') := dsum_any HSB.out h2 (h0_s8 (by decide) (by decide)) (Nat.le_refl _) (fun hr => by have := HLN.out.1 hr; simp at this ⊢; omega) HG.out HL.out.2.2.2.2.1 HL.out.2.2.2.2.2.1 HL.out.2.2.2.2.2.2; clear h2 CI) | (go_at_call 9; refine Calls.mono CT.out ?_; rintro e W3 ⟨g2, rfl, h3⟩; have H3 : Hid _ := h3; have HLD : Hid (W3.rangeAt g2 0 ((dig 32 [] Ds.flatten).map (Value.int .u8))) := row_rangeD (h3.2.row mem0); clear h3 CT) | (with_reducible refine at_list ?_; first | (refine load_midI rfl 40 (.tmp 31) rfl g2 0 rfl .u8 (dig 32 [] Ds.flatten) _ HLD.out Tryd.underlying40 rfl (by rw [HR.out.2]; exact infoK) ?_) | (refine hold_store 40 (.tmp 4) (.tmp 32) rfl ?_)))
      have h3 : Ev B w (.pointer ra) (l ++ nlg [] ++ plog 0 0 (Ds.map List.length) ++ [(1, 0)] ++ [(2, ((hld Ds.flatten).length : Int)), (3, 31)]) ((q, .cells (VI .u8 (List.replicate 32 0)) 40) :: bx) W3 := H3.out.2.tail.tail
      have ht3 := row_there (h3.row mem0)
      refine store_rowI rfl 40 (.tmp 4) (.tmp 32) rfl q .u8 (dig 32 [] Ds.flatten) rfl rfl (by rw [HR.out.2]; exact ht3) (by rw [HR.out.2]; exact infoK) rfl ?_
      have h4 := h3.storeRow (L' := (dig 32 [] Ds.flatten)) (fun p hp => by have := HL.out.2.2.1 p hp; omega) (by rw [HR.out.2, List.length_replicate])
      obtain ⟨W5, hW5⟩ : ∃ V, W3.setCells q 0 (VI .u8 (dig 32 [] Ds.flatten)).toList = V := ⟨_, rfl⟩
      rw [hW5] at h4 ⊢
      have H5 : Hid (Ev B w (.pointer ra) _ bx W5) := h4.tail
      have HR5 : Hid (W5.heap[q]? = some (.cells (VI .u8 (dig 32 [] Ds.flatten)) 40)) := h4.row mem0
      have HI5 : Hid ((Tryd.prog.info? 40).map (·.size) = some (VI .u8 (dig 32 [] Ds.flatten)).size) := by
        have : (Tryd.prog.info? 40).map (·.size) = some (VI .u8 (dig 32 [] Ds.flatten)).size := by rw [VI_size, HR.out.2]; exact infoK
        exact this
      clear h4 h3 ht3 hW5
      go_wp2
      refine bodyPost_ret (v := .agg (VI .u8 (dig 32 [] Ds.flatten))) ?_ rfl ⟨rfl, H5.out.cast (by unfold olg; rw [hld_hl, flat_len]; simp)⟩
      exact results_cell_row (P := Tryd.prog) (fn := Tryd.f13) (p := 4) (ty := 40) rfl _ _ q 40 (VI .u8 (dig 32 [] Ds.flatten)) (0, 0) _ rfl HR5.out Tryd.underlying40 rfl HI5.out
end Go.Proofs.YtfkbgodfcnmepabDoor
