import Derived.Test.YtgfamcadgahiiaaMmah
import Derived.Test.YtgfamcadgahiiaaMmai
namespace Go.Proofs.Ytgfamcadgahiiaa
set_option linter.unusedSimpArgs false
set_option linter.unusedVariables false
open Go.ChangeShapes Go.WideShapes Go.ChangeAt Go.RowKit Go.Pin Go.Prm
theorem wpList_copy_run {P : Program} (w : World) {ops : Array Oper} {rest : List Oper} {o : Oper} {a : Act} {Q : Exit → Act → World → Prop} (hgd : o.guard = none) (d s : Operand) (t t' : TypeId)
    (ho : o.op = .call { callee := .builtin .copy, args := #[d, s], argTypes := #[t, t'] }) (v u : Value) (hd : a.eval d = v) (hs : a.eval s = u) {v' : Value} {w' : World}
    (hr : (Builtin.copy_ #[t, t'] o.type #[v, u]).run P w = .ok v' w') (h : wpList P ops Q rest (a.put o.dst v') w') : wpList P ops Q (o :: rest) a w :=
  wpList_plain hgd fun _ hK => by
    unfold Oper.wp execOp
    simp only [ho, resolve, invoke, builtin, Sem.run_bind, Sem.run_pure, Result.andThen_ok, List.map_toArray, List.map_cons, List.map_nil, hd, hs, hr]
    exact hK _ _ h
theorem wpList_clear_run {P : Program} (w : World) {ops : Array Oper} {rest : List Oper} {o : Oper} {a : Act} {Q : Exit → Act → World → Prop} (hgd : o.guard = none) (d : Operand) (t : TypeId)
    (ho : o.op = .call { callee := .builtin .clear, args := #[d], argTypes := #[t] }) (v : Value) (hd : a.eval d = v) {v' : Value} {w' : World}
    (hr : (Builtin.clear_ #[t] o.type #[v]).run P w = .ok v' w') (h : wpList P ops Q rest (a.put o.dst v') w') : wpList P ops Q (o :: rest) a w :=
  wpList_plain hgd fun _ hK => by
    unfold Oper.wp execOp
    simp only [ho, resolve, invoke, builtin, Sem.run_bind, Sem.run_pure, Result.andThen_ok, List.map_toArray, List.map_cons, List.map_nil, hd, hr]
    exact hK _ _ h
/-- where what is behind k bytes begins -/
def adv (a : Option Addr) (cap k : Nat) : Option Addr := if cap = k then a else a.map (·.add k)
theorem size_u8 : ∀ w, (sizeOf 5).run Try.prog w = .ok 1 w := fun _ => by kernel_rfl
theorem run_from (w : World) (a : Option Addr) (n cap k : Nat) (x : Int) (hx : x = (k : Int)) (hk : k ≤ n) (hn : n ≤ cap) : (Instr.slice 30 (.slice a n cap) (some (.int .i64 x)) none none).run Try.prog w = .ok (.slice (adv a cap k) (n - k) (cap - k)) w := by
  subst hx
  have h1 : ((k : Nat) : Int) ≤ (n : Int) := by omega
  have h2 : ((n : Nat) : Int) ≤ (cap : Int) := by omega
  simp [Instr.slice, run_underlying Try.underlying30, Instr.sliceBounds, run_sliceBound, size_u8, sliced, h1, h2, hk, hn, adv]
theorem Src.from' {B : Nat} {w : World} {bx : List (Nat × Obj)} {a : Option Addr} {n cap : Nat} {D : List Int} (h : Src B w bx (.slice a n cap) D) (k : Nat) (hk : k ≤ n) : Src B w bx (.slice (adv a cap k) (n - k) (cap - k)) (D.drop k) := by
  obtain ⟨a', cap', e, hc, h3⟩ := h
  injection e with e1 e2 e3
  subst e1; subst e3
  have hn : D.length = n := e2.symm
  refine ⟨_, _, by rw [List.length_drop, hn], by rw [List.length_drop]; omega, ?_⟩
  by_cases hkn : k = n
  · left; exact List.drop_eq_nil_of_le (by omega)
  · rcases h3 with h3 | ⟨b, o, h3, h4⟩
    · rw [h3] at hn; simp at hn; omega
    · right
      refine ⟨b, o + k, by unfold adv; rw [if_neg (by omega), h3]; simp [add_mid], fun W hW hq j v hv => ?_⟩
      have := h4 W hW hq (k + j) v (by rw [List.map_drop, List.getElem?_drop] at hv; exact hv)
      rw [← Nat.add_assoc] at this
      exact this
theorem Src.len {B : Nat} {w : World} {bx : List (Nat × Obj)} {a : Option Addr} {n cap : Nat} {D : List Int} (h : Src B w bx (.slice a n cap) D) : D.length = n ∧ n ≤ cap := by
  obtain ⟨a', cap', e, hc, h3⟩ := h; injection e with e1 e2 e3; exact ⟨e2.symm, by rw [e2, e3]; exact hc⟩
theorem Src.range {B : Nat} {w : World} {bx : List (Nat × Obj)} {a : Option Addr} {n cap : Nat} {D : List Int} (h : Src B w bx (.slice a n cap) D) (h0 : 0 < n) : ∃ b o, a = some ⟨b, o, none⟩ ∧ ∀ W, Below B w W → (∀ q ∈ bx, W.heap[q.1]? = some q.2) → W.rangeAt b o (D.map (Value.int .u8)) := by
  obtain ⟨a', cap', e, hc, h3⟩ := h; injection e with e1 e2 e3; subst e1
  rcases h3 with h3 | h3
  · rw [h3] at e2; simp at e2; omega
  · exact h3
theorem range_take {W : World} {b o : Nat} {cs : List Value} (h : W.rangeAt b o cs) (k : Nat) : W.rangeAt b o (cs.take k) := fun j v hv => h j v (by rw [List.getElem?_take] at hv; split at hv; (exact hv); (cases hv))
def sln : Value → Nat
  | .slice _ n _ => n
  | _ => 0
theorem run_clearM {W : World} {g : Nat} {ty : TypeId} (hc : W.there g 27 17) : (Builtin.clear_ #[30] ty #[.slice (some ⟨g, 27, none⟩) 17 17]).run Try.prog W = .ok (.tuple #[]) (W.setCells g 27 ((List.replicate 17 (0 : Int)).map (Value.int .u8))) := by
  have := Go.Lib.run_clear_slice (P := Try.prog) W 30 5 ty (.int .u8 0) Try.underlying30 (fun w => by kernel_rfl) rfl rfl g 27 17 17 (by decide) (fun j hj => (hc j hj).1) (fun j hj => (hc j hj).2)
  rw [this]
  rfl
structure Cut (r s : List Int) (H D : List Int) (s' H' D' : List Int) (L1 : Lg) : Prop where
  one : H' = [] ∨ D' = []
  lt : H'.length < 16
  lim : Lim s'
  hb : Byt H'
  db : Byt D'
  le : D'.length ≤ D.length
  acc : acc r s' (H' ++ D') = acc r s (H ++ D)
  rst : rst (H' ++ D') = rst (H ++ D)
  log : L1 ++ (rnl (D'.length / 16) ++ [ifl false, ifl (decide (0 < D'.length % 16))]) = wlog H.length D.length
  ll : L1.length ≤ 10
theorem cut_none {r s D : List Int} (hs : Lim s) (hD : Byt D) : Cut r s [] D s [] D [ifl false] := ⟨.inl rfl, by decide, hs, (fun x hx => nomatch hx), hD, Nat.le_refl _, rfl, rfl, rfl, by simp⟩
theorem cut_short {r s H D : List Int} (hs : Lim s) (hH : Byt H) (hD : Byt D) (h0 : 0 < H.length) (h : H.length + D.length < 16) : Cut r s H D s (H ++ D) [] [ifl true, (2, (H.length : Int)), (2, (D.length : Int)), ifl false] :=
  ⟨.inr rfl, by rw [List.length_append]; exact h, hs, fun x hx => by
    rcases List.mem_append.1 hx with hx | hx
    · exact hH x hx
    · exact hD x hx, (fun x hx => nomatch hx), by simp, by rw [List.append_nil], by rw [List.append_nil], by
    unfold wlog
    rw [if_pos h0, if_pos h]
    rfl, by simp⟩
theorem cut_full {r s H D : List Int} (hr : Lim r) (hs : Lim s) (hH : Byt H) (hD : Byt D) (h0 : 0 < H.length) (h1 : H.length < 16) (h : 16 ≤ H.length + D.length) : Cut r s H D (wth r s (blkOf (H ++ D.take (16 - H.length)))) [] (D.drop (16 - H.length)) ([ifl true, (2, (H.length : Int)), (2, ((16 - H.length : Nat) : Int)), ifl true] ++ tkl) := by
  have e1 : (H ++ D).take 16 = H ++ D.take (16 - H.length) := by rw [List.take_append, List.take_of_length_le (by omega)]
  have e2 : (H ++ D).drop 16 = D.drop (16 - H.length) := by rw [List.drop_append, List.drop_eq_nil_of_le (by omega)]; rfl
  have ha := acc_step r s (D := H ++ D) (by rw [List.length_append]; exact h)
  rw [e1, e2] at ha
  have hx : Byt (H ++ D.take (16 - H.length)) := fun x hx => by
    rcases List.mem_append.1 hx with hx | hx
    · exact hH x hx
    · exact hD x (List.mem_of_mem_take hx)
  refine ⟨.inl rfl, by decide, wth_lim hr hs (blkOf_byt hx), (fun x hx => nomatch hx), fun x hx => hD x (List.mem_of_mem_drop hx), by rw [List.length_drop]; omega, ?_, ?_, ?_, by simp [tkl]⟩
  · rw [List.nil_append]; exact ha.1.symm
  · rw [List.nil_append]; exact ha.2.symm
  · unfold wlog
    rw [if_pos h0, if_neg (by omega), List.length_drop]
    have e3 : (D.length - (16 - H.length)) / 16 = (H.length + D.length - 16) / 16 := by congr 1; omega
    have e4 : (D.length - (16 - H.length)) % 16 = (H.length + D.length) % 16 := by omega
    rw [e3, e4]
    simp
set_option maxRecDepth 100000 in
set_option maxHeartbeats 8000000 in
theorem write_any {B : Nat} {w : World} {rv : Value} {l : List (Int × Int)} {bx : List (Nat × Obj)} {W : World} {g : Nat} {r m s H D : List Int} {a : Option Addr} {n cap : Nat} (h : Ev B w rv l ((g, macO rv r m s (H ++ List.replicate (17 - H.length) 0) H.length) :: bx) W) (hne : ∀ p ∈ bx, p.1 ≠ g) (hl : rv ≠ .pointer none → l.length + n ≤ 700000) (hH : H.length < 16) (hM : MS r m s (H ++ List.replicate (17 - H.length) 0)) (hHb : Byt H) (hDb : Byt D) (hS : Src B w bx (.slice a n cap) D) :
    Calls Try.prog 16 #[.pointer (some ⟨g, 0, none⟩), .slice a n cap] W fun e w' => e = .returned (.tuple #[]) ∧ Ev B w rv (l ++ wlog H.length D.length) ((g, macO rv r m (acc r s (H ++ D)) (rst (H ++ D) ++ List.replicate (17 - (rst (H ++ D)).length) 0) (rst (H ++ D)).length) :: bx) w' := by
  obtain ⟨hDn, hnc⟩ := hS.len
  have E0 : Hid _ := h
  have HM : Hid (MS r m s (H ++ List.replicate (17 - H.length) 0)) := hM
  have HL : Hid ((rv ≠ .pointer none → l.length + n ≤ 700000) ∧ H.length < 16 ∧ Byt H ∧ Byt D ∧ (∀ p ∈ bx, p.1 ≠ g) ∧ Src B w bx (.slice a n cap) D ∧ D.length = n ∧ n ≤ cap) := ⟨hl, hH, hHb, hDb, hne, hS, hDn, hnc⟩
  have HKey : Hid (∀ X : List Int, X.length < 17 → Byt X → Key17 (X ++ List.replicate (17 - X.length) 0)) := fun X h1 h2 => fill_key h2 (by omega)
  clear h hM hl hH hHb hDb hne hS hDn hnc
  go_enter Try.func16, Try.ntmps16
  go_upto_region 1 with fail
  refine wp_as (c' := rgWr1) (by kernel_rfl) ?_
  refine Wr1 (g := g) (h := H.length) (rv := rv) (r := r) (m := m) (s := s) (b := H ++ List.replicate (17 - H.length) 0)
    (R0 := Ev B w rv l ((g, macO rv r m s (H ++ List.replicate (17 - H.length) 0) H.length) :: bx)) (R1 := Ev B w rv (l ++ [ifl (decide (0 < H.length))]) ((g, macO rv r m s (H ++ List.replicate (17 - H.length) 0) H.length) :: bx))
    HM E0.out.drew (fun Y h => ⟨h.row mem0, trivial⟩) ?_ (fun Y h => ⟨h.row mem0, trivial⟩) (fun _ _ d _ _ h => by cases d <;> exact h) ?_
  · exact fun Y h => v_if h (fun hr => by have := HL.out.1 hr; omega) _
  intro W1 h1
  have H1 : Hid _ := h1
  clear h1 E0
  go_upto_if 16 with fail
  go_cut [1] (fun v wx => ∃ s' H' D' L1, Cut r s H D s' H' D' L1 ∧ Src B w bx v D' ∧ Ev B w rv (l ++ L1) ((g, macO rv r m s' (H' ++ List.replicate (17 - H'.length) 0) H'.length) :: bx) wx)
  case first =>
    by_cases h0 : 0 < H.length
    · have hdec : decide (0 < H.length) = true := by simpa using h0
      rw [hdec] at H1 ⊢
      obtain ⟨k, hk⟩ : ∃ k, Nat.min n (16 - H.length) = k := ⟨_, rfl⟩
      have hk1 : k ≤ n ∧ k ≤ 16 - H.length ∧ (k = n ∨ k = 16 - H.length) := by
        rw [← hk]; refine ⟨Nat.min_le_left _ _, Nat.min_le_right _ _, ?_⟩
        simp only [Nat.min_def]; split <;> omega
      have HK : Hid (Nat.min n (16 - H.length) = k ∧ k ≤ n ∧ k ≤ 16 - H.length ∧ (k = n ∨ k = 16 - H.length) ∧ 0 < H.length) := ⟨hk, hk1.1, hk1.2.1, hk1.2.2, h0⟩
      have HT : Hid ((D.take k).length = k) := by
        have : (D.take k).length = k := by rw [List.length_take, HL.out.2.2.2.2.2.2.1]; omega
        exact this
      have HTL : Hid ((H ++ D.take k).length = H.length + k) := by
        have : (H ++ D.take k).length = H.length + k := by rw [List.length_append, HT.out]
        exact this
      have HZ1 : Hid (H ++ List.replicate (17 - H.length) 0 = H ++ (List.replicate k 0 ++ List.replicate (17 - (H ++ D.take k).length) (0 : Int))) := by
        have : H ++ List.replicate (17 - H.length) 0 = H ++ (List.replicate k 0 ++ List.replicate (17 - (H ++ D.take k).length) (0 : Int)) := by
          rw [List.replicate_append_replicate, HTL.out]
          congr 2
          have := HL.out.2.1
          omega
        exact this
      have HXB : Hid (Byt (H ++ D.take k)) := by
        have : Byt (H ++ D.take k) := fun x hx => by
          rcases List.mem_append.1 hx with hx | hx
          · exact HL.out.2.2.1 x hx
          · exact HL.out.2.2.2.1 x (List.mem_of_mem_take hx)
        exact this
      have HKB : Hid (Key17 ((H ++ D.take k) ++ List.replicate (17 - (H ++ D.take k).length) 0)) := by
        have : Key17 ((H ++ D.take k) ++ List.replicate (17 - (H ++ D.take k).length) 0) := HKey.out _ (by rw [HTL.out]; have := HK.out.2.2.1; have := HL.out.2.1; omega) HXB.out
        exact this
      clear hk hk1 h0 hdec
      go_upto_region 2 with fail
      refine wp_as (c' := rgWr2) (by kernel_rfl) ?_
      refine Wr2 (g := g) (h := H.length) (rv := rv) (pv := .slice a n cap) (kv := .int .i64 (k : Int)) (r := r) (m := m) (s := s) (b := [])
        (R0 := Ev B w rv (l ++ [ifl true]) ((g, macO rv r m s (H ++ List.replicate (17 - H.length) 0) H.length) :: bx)) (R1 := Ev B w rv (l ++ [ifl true] ++ [(2, (H.length : Int))]) ((g, macO rv r m s (H ++ List.replicate (17 - H.length) 0) H.length) :: bx))
        (R2 := Ev B w rv (l ++ [ifl true] ++ [(2, (H.length : Int))]) ((g, macO rv r m s ((H ++ D.take k) ++ List.replicate (17 - (H ++ D.take k).length) 0) H.length) :: bx))
        (by have := HL.out.2.1; show H.length ≤ 16; omega) H1.out.drew (fun Y h => ⟨mac_r (h.row mem0), mac_held HM.out.r.len HM.out.m.len HM.out.s.len HM.out.b.len (h.row mem0)⟩) ?_ (fun Y h => ⟨mac_r (h.row mem0), mac_held HM.out.r.len HM.out.m.len HM.out.s.len HM.out.b.len (h.row mem0)⟩) ?_ (fun Y h => ⟨mac_r (h.row mem0), mac_held HM.out.r.len HM.out.m.len HM.out.s.len HKB.out.len (h.row mem0)⟩) (fun _ _ d _ _ h => by cases d <;> exact h) ?_
      · exact fun Y h => v_at h (fun hr => by have := HL.out.1 hr; simp; omega) _
      · intro Y h ac o K Q ho hd hx hy hK
        have hrow := h.row mem0
        rw [HZ1.out] at hrow
        have hnew : Ev B w rv (l ++ [ifl true] ++ [(2, (H.length : Int))]) ((g, macO rv r m s ((H ++ D.take k) ++ List.replicate (17 - (H ++ D.take k).length) 0) H.length) :: bx) (Y.setCells g (27 + H.length) ((D.take k).map (Value.int .u8))) := by
          refine h.set rfl HL.out.2.2.2.2.1 (grow_setCells g _ _ Y) ?_
          have := mac_setB (b1' := D.take k) HM.out.r.len HM.out.m.len HM.out.s.len (by rw [HT.out, List.length_replicate]) hrow
          rw [← List.append_assoc] at this
          exact this
        by_cases hn0 : n = 0
        · have hk0 : k = 0 := by have := HK.out.2.1; omega
          have ed : D.take k = [] := by rw [hk0]; rfl
          refine wpBuiltin (w' := Y) (z := .int .i64 (k : Int)) ho hd hx hy ?_ (hK _ (by rw [ed] at hnew ⊢; exact hnew))
          have := run_copy_none (P := Try.prog) Y 30 30 o.type 5 (some ⟨g, 27 + H.length, none⟩) a (16 - H.length) (17 - H.length) n cap Try.underlying30 info_u8 (by rw [hn0]; simp)
          rw [hk0]; exact this
        · obtain ⟨b, oo, rfl, hrg⟩ := HL.out.2.2.2.2.2.1.range (by omega)
          have hsr := range_take (hrg Y h.old (fun q hq => h.row (memr1 hq))) k
          rw [← List.map_take] at hsr
          refine wpBuiltin (w' := Y.setCells g (27 + H.length) ((D.take k).map (Value.int .u8))) (z := .int .i64 (k : Int)) ho hd hx hy ?_ (hK _ hnew)
          have := run_copyX (W := Y) (gd := g) (od := 27 + H.length) (dl := 16 - H.length) (dc := 17 - H.length) (sl := n) (sc := cap) (X := D.take k) o.type (by rw [HT.out, HK.out.1]) hsr (fun j hj => by
            rw [HT.out] at hj
            refine ⟨?_, mac_froz hrow _⟩
            have hb := mac_begun HM.out.r.len HM.out.m.len HM.out.s.len (h.row mem0) (H.length + j) _ (List.getElem?_eq_getElem (by rw [List.length_map, HM.out.b.len]; have := HK.out.2.2.1; have := HL.out.2.1; omega))
            rw [Nat.add_assoc, hb]
            rfl)
          rw [HT.out] at this; exact this
      intro W2 h2
      have c0 := mac_r (h2.row mem0)
      have CA : Hid (Calls Try.prog 37 #[rv, .int .i64 (k : Int)] W2 fun e w' => e = .returned (.int .i64 (k : Int)) ∧ Ev B w rv (l ++ [ifl true] ++ [(2, (H.length : Int))] ++ [(2, (k : Int))]) ((g, macO rv r m s ((H ++ D.take k) ++ List.replicate (17 - (H ++ D.take k).length) 0) H.length) :: bx) w') := v_at h2 (fun hr => by have := HL.out.1 hr; simp; omega) _
      have hfrom := fun w => run_from w a n cap k (k : Int) rfl HK.out.2.1 HL.out.2.2.2.2.2.2.2
      have hs2 := HL.out.2.2.2.2.2.1.from' k HK.out.2.1
      obtain ⟨a2, ha2⟩ : ∃ a2, adv a cap k = a2 := ⟨_, rfl⟩
      simp only [ha2] at hfrom hs2
      have HS2 : Hid (Src B w bx (.slice a2 (n - k) (cap - k)) (D.drop k)) := hs2
      clear h2 H1 ha2 hs2
      go_upto_region 4 with (first | (go_at_call 37; refine Calls.mono CA.out ?_; rintro e W3 ⟨rfl, h3⟩; have H3 : Hid _ := h3; clear h3))
      have c44 := mac_held HM.out.r.len HM.out.m.len HM.out.s.len HKB.out.len (H3.out.row mem0)
      have f44 := mac_froz (H3.out.row mem0) 44
      have hwr : IntKind.i64.wrap ((H.length : Int) + (k : Int)) = (H.length : Int) + (k : Int) := by
        have := HL.out.2.1
        have := HK.out.2.2.1
        exact IntWalk.i64_in _ ⟨by omega, by omega⟩
      have h4 : Ev B w rv (l ++ [ifl true] ++ [(2, (H.length : Int))] ++ [(2, (k : Int))]) ((g, macO rv r m s ((H ++ D.take k) ++ List.replicate (17 - (H ++ D.take k).length) 0) (H.length + k)) :: bx) (W3.setCell ⟨g, 44, none⟩ (.int .i64 ((H.length : Int) + (k : Int)))) := by
        refine H3.out.set rfl HL.out.2.2.2.2.1 ((Grow.refl (fun k => k = g) W3).setCell (p := ⟨g, 44, none⟩) (.inl rfl) _) ?_
        have := mac_setH HM.out.r.len HM.out.m.len HM.out.s.len HKB.out.len (H.length + k) (H3.out.row mem0)
        rw [Int.natCast_add] at this
        exact this
      obtain ⟨W4, hW4⟩ : ∃ V, W3.setCell ⟨g, 44, none⟩ (.int .i64 ((H.length : Int) + (k : Int))) = V := ⟨_, rfl⟩
      rw [hW4] at h4
      have H4 : Hid _ := h4
      clear h4 c0
      go_upto_region 5 with fail
      have HM4 : Hid (MS r m s ((H ++ D.take k) ++ List.replicate (17 - (H ++ D.take k).length) 0)) := by
        have : MS r m s ((H ++ D.take k) ++ List.replicate (17 - (H ++ D.take k).length) 0) := ⟨HM.out.r, HM.out.m, HM.out.s, HKB.out⟩
        exact this
      refine wp_as (c' := rgWr5) (by kernel_rfl) ?_
      refine Wr5 (g := g) (h := H.length + k) (rv := rv) (r := r) (m := m) (s := s) (b := ((H ++ D.take k) ++ List.replicate (17 - (H ++ D.take k).length) 0))
        (R0 := Ev B w rv (l ++ [ifl true] ++ [(2, (H.length : Int))] ++ [(2, (k : Int))]) ((g, macO rv r m s ((H ++ D.take k) ++ List.replicate (17 - (H ++ D.take k).length) 0) (H.length + k)) :: bx)) (R1 := Ev B w rv ((l ++ [ifl true] ++ [(2, (H.length : Int))] ++ [(2, (k : Int))]) ++ [ifl (decide (H.length + k = 16))]) ((g, macO rv r m s ((H ++ D.take k) ++ List.replicate (17 - (H ++ D.take k).length) 0) (H.length + k)) :: bx))
        HM4 H4.out.drew (fun Y h => ⟨h.row mem0, trivial⟩) ?_ (fun Y h => ⟨h.row mem0, trivial⟩) (fun _ _ d _ _ h => by cases d <;> exact h) ?_
      · exact fun Y h => v_if h (fun hr => by have := HL.out.1 hr; simp; omega) _
      intro W5 h5
      clear H3 H4 CA hW4 c44 f44 hwr hfrom
      by_cases h16 : H.length + k = 16
      · have hdec : decide (H.length + k = 16) = true := by simpa using h16
        rw [hdec] at h5 ⊢
        have hr16 : W5.rangeAt g 27 ((H ++ D.take k).map (Value.int .u8)) := by
          have := range_take (mac_begun HM.out.r.len HM.out.m.len HM.out.s.len (h5.row mem0)) 16
          rw [← List.map_take, List.take_append_of_le_length (by rw [HTL.out]; omega), List.take_of_length_le (by rw [HTL.out]; omega)] at this
          exact this
        have CT : Hid (Calls Try.prog 45 #[.pointer (some ⟨g, 0, none⟩), .pointer (some ⟨g, 27, none⟩)] W5 fun e w' => e = .returned (.tuple #[]) ∧ Ev B w rv ((l ++ [ifl true] ++ [(2, (H.length : Int))] ++ [(2, (k : Int))]) ++ [ifl true] ++ tkl) ((g, macO rv r m (wth r s (blkOf (H ++ D.take k))) ((H ++ D.take k) ++ List.replicate (17 - (H ++ D.take k).length) 0) (H.length + k)) :: bx) w') := take_any h5 HL.out.2.2.2.2.1 (fun hr => by have := HL.out.1 hr; simp; omega) HM4.out (by rw [HTL.out]; exact h16) HXB.out hr16
        have HZ6 : Hid (Lim (wth r s (blkOf (H ++ D.take k)))) := wth_lim HM.out.r HM.out.s (blkOf_byt HXB.out)
        have H16 : Hid (H.length + k = 16) := h16
        clear h5 hr16 hdec h16
        have hap := fun w => run_arrayAt (P := Try.prog) (w := w) 35 5 16 (some ⟨g, 27, none⟩) 16 17 Try.underlying35 (by decide)
        go_upto_region 7 with (first | (go_at_call 45; refine Calls.mono CT.out ?_; rintro e W6 ⟨rfl, h6⟩; have H6 : Hid _ := h6; clear h6))
        have ht6 : W6.there g 27 17 := fun j hj => by
          refine ⟨?_, mac_froz (H6.out.row mem0) _⟩
          rw [mac_begun HM.out.r.len HM.out.m.len HZ6.out.len (H6.out.row mem0) j _ (List.getElem?_eq_getElem (by rw [List.length_map, HKB.out.len]; exact hj))]
          rfl
        have HCL : Hid (∀ ty, (Builtin.clear_ #[30] ty #[.slice (some ⟨g, 27, none⟩) 17 17]).run Try.prog W6 = .ok (.tuple #[]) (W6.setCells g 27 ((List.replicate 17 (0 : Int)).map (Value.int .u8)))) := fun ty => run_clearM ht6
        have h7 : Ev B w rv ((l ++ [ifl true] ++ [(2, (H.length : Int))] ++ [(2, (k : Int))]) ++ [ifl true] ++ tkl) ((g, macO rv r m (wth r s (blkOf (H ++ D.take k))) (List.replicate 17 0) (H.length + k)) :: bx) (W6.setCells g 27 ((List.replicate 17 (0 : Int)).map (Value.int .u8))) := by
          refine H6.out.set rfl HL.out.2.2.2.2.1 (grow_setCells g _ _ W6) ?_
          have hb0 := H6.out.row mem0
          have := mac_setB (b0 := []) (b1 := ((H ++ D.take k) ++ List.replicate (17 - (H ++ D.take k).length) 0)) (b2 := []) (b1' := List.replicate 17 0) HM.out.r.len HM.out.m.len HZ6.out.len (by rw [List.length_replicate, HKB.out.len]) (by rw [List.nil_append, List.append_nil]; exact hb0)
          rw [List.nil_append, List.append_nil] at this
          exact this
        obtain ⟨W7, hW7⟩ : ∃ V, W6.setCells g 27 ((List.replicate 17 (0 : Int)).map (Value.int .u8)) = V := ⟨_, rfl⟩
        rw [hW7] at h7 HCL
        have c44 := mac_held HM.out.r.len HM.out.m.len HZ6.out.len (List.length_replicate ..) (h7.row mem0)
        have f44 := mac_froz (h7.row mem0) 44
        have h8 : Ev B w rv ((l ++ [ifl true] ++ [(2, (H.length : Int))] ++ [(2, (k : Int))]) ++ [ifl true] ++ tkl) ((g, macO rv r m (wth r s (blkOf (H ++ D.take k))) (List.replicate 17 0) 0) :: bx) (W7.setCell ⟨g, 44, none⟩ (.int .i64 0)) := by
          refine h7.set rfl HL.out.2.2.2.2.1 ((Grow.refl (fun k => k = g) W7).setCell (p := ⟨g, 44, none⟩) (.inl rfl) _) ?_
          exact mac_setH HM.out.r.len HM.out.m.len HZ6.out.len (List.length_replicate ..) 0 (h7.row mem0)
        obtain ⟨W8, hW8⟩ : ∃ V, W7.setCell ⟨g, 44, none⟩ (.int .i64 0) = V := ⟨_, rfl⟩
        rw [hW8] at h8
        have H8 : Hid _ := h8
        clear h7 h8 hW7 ht6
        go_wp2_with (with_reducible refine at_list ?_; first | (refine wpList_clear_run W6 rfl (.tmp 68) 30 rfl (.slice (some ⟨g, 27, none⟩) 17 17) rfl (HCL.out _) ?_))
        go_meet
        have hc := cut_full HM.out.r HM.out.s HL.out.2.2.1 HL.out.2.2.2.1 HK.out.2.2.2.2 HL.out.2.1 (by have := H16.out; have := HK.out.2.1; rw [HL.out.2.2.2.2.2.2.1]; omega)
        have ek : 16 - H.length = k := by have := H16.out; omega
        rw [ek] at hc
        refine ⟨_, _, _, _, hc, HS2.out, ?_⟩
        have := H8.out
        simp only [List.append_assoc] at this ⊢
        exact this
      · have hdec : decide (H.length + k = 16) = false := by simpa using h16
        rw [hdec] at h5 ⊢
        have H5 : Hid _ := h5
        have H16 : Hid (H.length + k ≠ 16) := h16
        clear h5 hdec h16
        go_wp2_with fail
        go_meet
        have ek : k = n := by have := H16.out; have := HK.out.2.2.2.1; have := HL.out.2.1; omega
        have eD : D.take k = D := List.take_of_length_le (by rw [HL.out.2.2.2.2.2.2.1]; omega)
        have hc := cut_short (r := r) HM.out.s HL.out.2.2.1 HL.out.2.2.2.1 HK.out.2.2.2.2 (by have := H16.out; have := HK.out.2.2.1; have := HL.out.2.1; rw [HL.out.2.2.2.2.2.2.1]; omega)
        refine ⟨_, _, _, _, hc, ?_, ?_⟩
        · have := HS2.out
          rw [List.drop_eq_nil_of_le (by rw [HL.out.2.2.2.2.2.2.1]; omega)] at this
          exact this
        · have h9 := H5.out
          rw [eD] at h9
          have e1 : H.length + k = (H ++ D).length := by rw [List.length_append, HL.out.2.2.2.2.2.2.1]; omega
          have e2 : (k : Int) = (D.length : Int) := by rw [HL.out.2.2.2.2.2.2.1, ek]
          rw [e1, e2] at h9
          simp only [List.append_assoc] at h9 ⊢
          exact h9
    · have hdec : decide (0 < H.length) = false := by simpa using h0
      rw [hdec] at H1 ⊢
      have H0 : Hid (H = []) := by
        have : H = [] := List.length_eq_zero_iff.1 (by omega)
        exact this
      clear hdec h0
      go_wp2_with fail
      go_meet
      have e0 := H0.out
      subst e0
      exact ⟨s, [], D, [ifl false], cut_none HM.out.s HL.out.2.2.2.1, HL.out.2.2.2.2.2.1, H1.out⟩
  case rest =>
    obtain ⟨s', H', D', L1, hcu, hsr, he⟩ := hcut
    obtain ⟨a1, c1, hu1, hc1, hx1⟩ := id hsr
    clear hx1
    obtain ⟨n', hn'⟩ : ∃ n', D'.length = n' := ⟨_, rfl⟩
    rw [hn'] at hu1
    subst hu1
    have HC : Hid (Cut r s H D s' H' D' L1) := hcu
    have HN : Hid (D'.length = n' ∧ n' ≤ n) := ⟨hn', by have := hcu.le; rw [hn', HL.out.2.2.2.2.2.2.1] at this; exact this⟩
    have HS : Hid (Src B w bx (.slice a1 n' c1) D') := hsr
    have HE : Hid (Ev B w rv (l ++ L1) ((g, macO rv r m s' (H' ++ List.replicate (17 - H'.length) 0) H'.length) :: bx) _) := he
    have HKE : Hid (Key17 (H' ++ List.replicate (17 - H'.length) 0)) := by
      have : Key17 (H' ++ List.replicate (17 - H'.length) 0) := HKey.out _ (by have := hcu.lt; omega) hcu.hb
      exact this
    clear hcu hsr he hc1 hn' H1
    go_wp2_with fail
    go_loopw [1] (fun v w' => ∃ (j nj : Nat) (a2 : Option Addr) (c2 : Nat) (s2 : List Int), n' = 16 * j + nj ∧ v = .slice a2 nj c2 ∧ Src B w bx v (D'.drop (16 * j)) ∧ Lim s2 ∧ Ev B w rv (l ++ L1 ++ rnl j) ((g, macO rv r m s2 (H' ++ List.replicate (17 - H'.length) 0) H'.length) :: bx) w' ∧ acc r s2 (H' ++ D'.drop (16 * j)) = acc r s (H ++ D) ∧ rst (H' ++ D'.drop (16 * j)) = rst (H ++ D)) (fun v _ => sln v)
    case atStart => exact ⟨0, n', a1, c1, s', by omega, rfl, HS.out, HC.out.lim, HE.out.cast (by simp [rnl]), HC.out.acc, HC.out.rst⟩
    case round =>
      clear HE HS
      obtain ⟨j, nj, a2, c2, s2, hj, rfl, hs2, hlim, he2, hacc, hrst⟩ := hrel
      have hlc := hs2.len
      obtain ⟨X, hX⟩ : ∃ X, D'.drop (16 * j) = X := ⟨_, rfl⟩
      rw [hX] at hs2 hacc hrst hlc
      have HJ : Hid (n' = 16 * j + nj ∧ X.length = nj ∧ nj ≤ c2 ∧ D'.drop (16 * j) = X) := ⟨by omega, hlc.1, hlc.2, hX⟩
      have HMj : Hid (MS r m s2 (H' ++ List.replicate (17 - H'.length) 0)) := by
        have : MS r m s2 (H' ++ List.replicate (17 - H'.length) 0) := ⟨HM.out.r, HM.out.m, hlim, HKE.out⟩
        exact this
      have HACC : Hid (acc r s2 (H' ++ X) = acc r s (H ++ D) ∧ rst (H' ++ X) = rst (H ++ D)) := ⟨hacc, hrst⟩
      have HXB : Hid (Byt X) := by
        have : Byt X := fun x hx => HC.out.db x (List.mem_of_mem_drop (hX ▸ hx))
        exact this
      have HONE : Hid (0 < nj → H' = []) := by
        have : 0 < nj → H' = [] := fun h0 => by
          rcases HC.out.one with e | e
          · exact e
          · have e1 := HN.out.1; rw [e] at e1; simp at e1; omega
        exact this
      have HLN : Hid (rv ≠ .pointer none → (l ++ L1 ++ rnl j).length + 10 ≤ 800000) := by
        have : rv ≠ .pointer none → (l ++ L1 ++ rnl j).length + 10 ≤ 800000 := fun hr => by
          have := HL.out.1 hr; have := HC.out.ll; have := HN.out.2; simp [rnl_len]; omega
        exact this
      have c0 := mac_r (he2.row mem0)
      by_cases hge : 16 ≤ nj
      · have eH : H' = [] := HONE.out (by omega)
        have b1 : (16 : Int) ≤ (nj : Int) := by omega
        have CI : Hid (Calls Try.prog 36 #[rv, .bool true] wr fun e w' => e = .returned (.bool true) ∧ Ev B w rv (l ++ L1 ++ rnl j ++ [ifl true]) ((g, macO rv r m s2 (H' ++ List.replicate (17 - H'.length) 0) H'.length) :: bx) w') := v_if he2 (fun hr => by have := HLN.out hr; omega) true
        obtain ⟨b, oo, rfl, hrg⟩ := hs2.range (by omega)
        have HRG : Hid _ := hrg
        have hap := fun w => run_arrayAt (P := Try.prog) (w := w) 35 5 16 (some ⟨b, oo, none⟩) nj c2 Try.underlying35 hge
        have hfrom := fun w => run_from w (some ⟨b, oo, none⟩) nj c2 16 16 rfl hge hlc.2
        have hs3 := hs2.from' 16 hge
        obtain ⟨a3, ha3⟩ : ∃ a3, adv (some ⟨b, oo, none⟩) c2 16 = a3 := ⟨_, rfl⟩
        simp only [ha3] at hfrom hs3
        have HS3 : Hid (Src B w bx (.slice a3 (nj - 16) (c2 - 16)) (X.drop 16)) := hs3
        have HG : Hid (16 ≤ nj ∧ H' = [] ∧ (X.take 16).length = 16 ∧ Byt (X.take 16)) := ⟨hge, eH, by rw [List.length_take, hlc.1]; omega, fun x hx => HXB.out x (List.mem_of_mem_take hx)⟩
        have HZ : Hid (Lim (wth r s2 (blkOf (X.take 16)))) := wth_lim HM.out.r hlim (blkOf_byt HG.out.2.2.2)
        clear hs2 hs3 hlim he2 hacc hrst hlc hj hrg ha3 hge eH hX
        go_wp2_with (first | (go_at_call 36; refine Calls.mono CI.out ?_; rintro e W2 ⟨rfl, h2⟩; have hr2 := range_take (HRG.out W2 h2.old (fun q hq => h2.row (memr1 hq))) 16; rw [← List.map_take] at hr2; have CT : Hid _ := take_any h2 HL.out.2.2.2.2.1 (fun hr => by have := HLN.out hr; simp at this ⊢; omega) HMj.out HG.out.2.2.1 HG.out.2.2.2 hr2; clear h2 hr2) | (go_at_call 45; refine Calls.mono CT.out ?_; rintro e W3 ⟨rfl, h3⟩; have H3 : Hid _ := h3; clear h3))
        go_roundw
        case rel =>
          have e1 : 16 * (j + 1) = 16 * j + 16 := by omega
          have e2 : D'.drop (16 * (j + 1)) = X.drop 16 := by rw [e1, ← List.drop_drop, HJ.out.2.2.2]
          have ha := acc_step r s2 (D := X) (by rw [HJ.out.2.1]; exact HG.out.1)
          refine ⟨j + 1, nj - 16, a3, c2 - 16, wth r s2 (blkOf (X.take 16)), by have := HJ.out.1; have := HG.out.1; omega, rfl, ?_, HZ.out, ?_, ?_, ?_⟩
          · rw [e2]; exact HS3.out
          · refine H3.out.cast ?_
            simp [rnl]
          · rw [e2, ← HACC.out.1, HG.out.2.1]; exact ha.1.symm
          · rw [e2, ← HACC.out.2, HG.out.2.1]; exact ha.2.symm
        case measure => have := HG.out.1; simp [sln]; omega
      · have b1 : ¬ (16 : Int) ≤ (nj : Int) := by omega
        have CI : Hid (Calls Try.prog 36 #[rv, .bool false] wr fun e w' => e = .returned (.bool false) ∧ Ev B w rv (l ++ L1 ++ rnl j ++ [ifl false]) ((g, macO rv r m s2 (H' ++ List.replicate (17 - H'.length) 0) H'.length) :: bx) w') := v_if he2 (fun hr => by have := HLN.out hr; omega) false
        have hHX : (H' ++ X).length < 16 := by
          rw [List.length_append, hlc.1]
          by_cases h0 : 0 < nj
          · rw [HONE.out h0]; simp; omega
          · have := HC.out.lt; omega
        have ha := acc_short r s2 hHX
        rw [hacc] at ha
        rw [hrst] at ha
        have HFIN : Hid (acc r s (H ++ D) = s2 ∧ rst (H ++ D) = H' ++ X) := ha
        have HLOG : Hid (l ++ wlog H.length D.length = l ++ L1 ++ rnl j ++ [ifl false] ++ [ifl (decide (0 < nj))]) := by
          have : l ++ wlog H.length D.length = l ++ L1 ++ rnl j ++ [ifl false] ++ [ifl (decide (0 < nj))] := by
            rw [← HC.out.log]
            have e1 : D'.length / 16 = j := by have := HN.out.1; have := HJ.out.1; omega
            have e2 : D'.length % 16 = nj := by have := HN.out.1; have := HJ.out.1; omega
            rw [e1, e2]
            simp
          exact this
        have HG : Hid (nj < 16) := by show nj < 16; omega
        by_cases h0 : 0 < nj
        · have b2 : (0 : Int) < (nj : Int) := by omega
          obtain ⟨b, oo, rfl, hrg⟩ := hs2.range h0
          have HRG : Hid _ := hrg
          have H0 : Hid (H' = [] ∧ 0 < nj) := ⟨HONE.out h0, h0⟩
          clear hs2 hlim he2 hacc hrst hlc hj hrg hge hX hHX ha
          go_upto_region 13 with (first | (go_at_call 36; refine Calls.mono CI2.out ?_; rintro e W3 ⟨rfl, h3⟩; have H3 : Hid _ := h3; clear h3) | (go_at_call 36; refine Calls.mono CI.out ?_; rintro e W2 ⟨rfl, h2⟩; have c0' := mac_r (h2.row mem0); have CI2 : Hid _ := v_if h2 (fun hr => by have := HLN.out hr; simp at this ⊢; omega) true; clear h2))
          have hb3 : W3.heap[g]? = some (macO rv r m s2 ([] ++ (List.replicate nj 0 ++ List.replicate (17 - nj) 0)) 0) := by
            have := H3.out.row mem0
            rw [H0.out.1] at this
            rw [List.replicate_append_replicate, show nj + (17 - nj) = 17 by have := HG.out; omega]
            exact this
          have ht3 : W3.there g 27 X.length := fun q hq => by
            rw [HJ.out.2.1] at hq
            refine ⟨?_, mac_froz hb3 _⟩
            rw [mac_begun HM.out.r.len HM.out.m.len HMj.out.s.len hb3 q _ (List.getElem?_eq_getElem (by simp; have := HG.out; omega))]
            rfl
          have hs3 := HRG.out W3 H3.out.old (fun q hq => H3.out.row (memr1 hq))
          have HCP : Hid (∀ ty, (Builtin.copy_ #[30, 30] ty #[.slice (some ⟨g, 27, none⟩) 17 17, .slice (some ⟨b, oo, none⟩) nj c2]).run Try.prog W3 = .ok (.int .i64 (nj : Int)) (W3.setCells g 27 (X.map (Value.int .u8)))) := by
            have : ∀ ty, (Builtin.copy_ #[30, 30] ty #[.slice (some ⟨g, 27, none⟩) 17 17, .slice (some ⟨b, oo, none⟩) nj c2]).run Try.prog W3 = .ok (.int .i64 (nj : Int)) (W3.setCells g 27 (X.map (Value.int .u8))) := fun ty => by
              have := run_copyX (W := W3) (gd := g) (od := 27) (dl := 17) (dc := 17) (sl := nj) (sc := c2) (X := X) ty (by rw [HJ.out.2.1]; have := HG.out; exact (Nat.min_eq_left (by omega)).symm) hs3 ht3
              rw [HJ.out.2.1] at this
              exact this
            exact this
          have h4 : Ev B w rv (l ++ L1 ++ rnl j ++ [ifl false] ++ [ifl true]) ((g, macO rv r m s2 (X ++ List.replicate (17 - nj) 0) 0) :: bx) (W3.setCells g 27 (X.map (Value.int .u8))) := by
            refine H3.out.set rfl HL.out.2.2.2.2.1 (grow_setCells g _ _ W3) ?_
            exact mac_setB (b0 := []) (b1' := X) HM.out.r.len HM.out.m.len HMj.out.s.len (by rw [HJ.out.2.1, List.length_replicate]) hb3
          obtain ⟨W4, hW4⟩ : ∃ V, W3.setCells g 27 (X.map (Value.int .u8)) = V := ⟨_, rfl⟩
          rw [hW4] at h4 HCP
          have hxl : (X ++ List.replicate (17 - nj) (0 : Int)).length = 17 := by rw [List.length_append, List.length_replicate, HJ.out.2.1]; have := HG.out; omega
          have c44 := mac_held HM.out.r.len HM.out.m.len HMj.out.s.len hxl (h4.row mem0)
          have f44 := mac_froz (h4.row mem0) 44
          have h5 : Ev B w rv (l ++ L1 ++ rnl j ++ [ifl false] ++ [ifl true]) ((g, macO rv r m s2 (X ++ List.replicate (17 - nj) 0) nj) :: bx) (W4.setCell ⟨g, 44, none⟩ (.int .i64 (nj : Int))) := by
            refine h4.set rfl HL.out.2.2.2.2.1 ((Grow.refl (fun k => k = g) W4).setCell (p := ⟨g, 44, none⟩) (.inl rfl) _) ?_
            exact mac_setH HM.out.r.len HM.out.m.len HMj.out.s.len hxl nj (h4.row mem0)
          obtain ⟨W5, hW5⟩ : ∃ V, W4.setCell ⟨g, 44, none⟩ (.int .i64 (nj : Int)) = V := ⟨_, rfl⟩
          rw [hW5] at h5
          have H5 : Hid _ := h5
          clear h4 h5 hW4 hb3 ht3 hs3 hxl
          go_wp2_with (with_reducible refine at_list ?_; first | (refine wpList_copy_run W3 rfl (.tmp 98) (.tmp 99) 30 30 rfl (.slice (some ⟨g, 27, none⟩) 17 17) (.slice (some ⟨b, oo, none⟩) nj c2) rfl rfl (HCP.out _) ?_))
          first | go_end0 | refine bodyPost_ret (results_none rfl _ _ _) rfl ?_
          refine ⟨rfl, ?_⟩
          rw [HLOG.out, HFIN.out.1, HFIN.out.2, H0.out.1, List.nil_append, HJ.out.2.1]
          have hd : decide (0 < nj) = true := by have := H0.out.2; simpa using this
          rw [hd]
          exact H5.out
        · have b2 : ¬ (0 : Int) < (nj : Int) := by omega
          have H0 : Hid (nj = 0 ∧ X = []) := ⟨by omega, List.length_eq_zero_iff.1 (by rw [hlc.1]; omega)⟩
          clear hs2 hlim he2 hacc hrst hlc hj hge hX hHX ha
          go_wp2_with (first | (go_at_call 36; refine Calls.mono CI2.out ?_; rintro e W3 ⟨rfl, h3⟩; have H3 : Hid _ := h3; clear h3) | (go_at_call 36; refine Calls.mono CI.out ?_; rintro e W2 ⟨rfl, h2⟩; have c0' := mac_r (h2.row mem0); have CI2 : Hid _ := v_if h2 (fun hr => by have := HLN.out hr; simp at this ⊢; omega) false; clear h2))
          first | go_end0 | refine bodyPost_ret (results_none rfl _ _ _) rfl ?_
          refine ⟨rfl, ?_⟩
          rw [HLOG.out, HFIN.out.1, HFIN.out.2, H0.out.2, List.append_nil]
          have hd : decide (0 < nj) = false := by have := H0.out.1; simp; omega
          rw [hd]
          exact H3.out
end Go.Proofs.Ytgfamcadgahiiaa
namespace Go.Prm
open Go
/-- what the pieces' Writes log -/
def plog : Nat → Nat → List Nat → Lg
  | _, _, [] => []
  | h, i, n :: r => ifl true :: (2, (i : Int)) :: (wlog h n ++ plog ((h + n) % 16) (i + 1) r)
theorem plog_snoc : ∀ (ns : List Nat) (h i n : Nat), h < 16 → plog h i (ns ++ [n]) = plog h i ns ++ (ifl true :: (2, ((i + ns.length : Nat) : Int)) :: wlog ((h + ns.sum) % 16) n)
  | [], h, i, n, hh => by simp [plog, Nat.mod_eq_of_lt hh]
  | m :: r, h, i, n, hh => by
    have := plog_snoc r ((h + m) % 16) (i + 1) n (by omega)
    rw [List.cons_append, plog, this, plog]
    have e1 : i + 1 + r.length = i + (m :: r).length := by simp; omega
    have e2 : ((h + m) % 16 + r.sum) % 16 = (h + (m :: r).sum) % 16 := by simp; omega
    rw [e1, e2]
    simp
theorem plog_len : ∀ (l : List Nat) (h i : Nat), h < 16 → (plog h i l).length ≤ 22 * l.length + l.sum
  | [], h, i, _ => by simp [plog]
  | n :: r, h, i, hh => by
    have h1 := wlog_len h n hh
    have h2 := plog_len r ((h + n) % 16) (i + 1) (by omega)
    simp [plog]
    omega
/-- what Of logs -/
def olg (ns : List Nat) : Lg := plog 0 0 ns ++ (ifl false :: tlog (ns.sum % 16))
theorem olg_len (ns : List Nat) : (olg ns).length ≤ 5 + 22 * ns.length + ns.sum := by
  have := plog_len ns 0 0 (by omega)
  have := tlog_len (ns.sum % 16)
  simp [olg]
  omega
theorem flat_len (Ds : List (List Int)) : Ds.flatten.length = (Ds.map List.length).sum := by rw [List.length_flatten]
theorem fin_tag (key : List Int) (D : List Int) : (if (rst D).length = 0 then acc (rOf key) z5 D else wth (rOf key) (acc (rOf key) z5 D) (blkOf (rst D))) = facc (rOf key) z5 D := (facc_eq _ _ D z5 (Nat.le_refl _)).symm
end Go.Prm
namespace Go.Proofs.Ytgfamcadgahiiaa
set_option linter.unusedSimpArgs false
set_option linter.unusedVariables false
open Go.ChangeShapes Go.WideShapes Go.ChangeAt Go.RowKit Go.Pin Go.Prm
theorem rst_app (D E : List Int) : rst (rst D ++ E) = rst (D ++ E) := ((acc_app z5 D.length D z5 E (Nat.le_refl _)).2).symm
theorem acc_app' (r s D E : List Int) : acc r (acc r s D) (rst D ++ E) = acc r s (D ++ E) := ((acc_app r D.length D s E (Nat.le_refl _)).1).symm
/-- a piece, to a Mac of a key -/
theorem mwrite_any {B : Nat} {w : World} {rv : Value} {l : List (Int × Int)} {bx : List (Nat × Obj)} {W : World} {g : Nat} {key D0 D : List Int} {v : Value} (h : Ev B w rv l ((g, mst rv key D0) :: bx) W) (hne : ∀ p ∈ bx, p.1 ≠ g) (hl : rv ≠ .pointer none → l.length + D.length ≤ 700000) (hk : Key32 key) (hD0 : Byt D0) (hD : Byt D) (hS : Src B w bx v D) :
    Calls Try.prog 16 #[.pointer (some ⟨g, 0, none⟩), v] W fun e w' => e = .returned (.tuple #[]) ∧ Ev B w rv (l ++ wlog (D0.length % 16) D.length) ((g, mst rv key (D0 ++ D)) :: bx) w' := by
  obtain ⟨a, cap, rfl, _⟩ := id hS
  refine (write_any (H := rst D0) (D := D) h hne hl (by rw [rst_len]; omega) (mst_ms hk hD0) (rst_byt hD0) hD hS).mono ?_
  rintro e w' ⟨rfl, h2⟩
  refine ⟨rfl, ?_⟩
  rw [rst_len, acc_app', rst_app] at h2
  exact h2
/-- its Tag -/
theorem mtag_any {B : Nat} {w : World} {rv : Value} {l : List (Int × Int)} {bx : List (Nat × Obj)} {W : World} {g : Nat} {key D : List Int} (h : Ev B w rv l ((g, mst rv key D) :: bx) W) (hl : rv ≠ .pointer none → l.length ≤ 800000) (hk : Key32 key) (hD : Byt D) :
    Calls Try.prog 13 #[.pointer (some ⟨g, 0, none⟩)] W fun e w' => e = .returned (.agg (VI .u8 (mtag key D))) ∧ Ev B w rv (l ++ tlog (D.length % 16)) ((g, mst rv key D) :: bx) w' := by
  refine (tag_any (D := rst D) h hl (by rw [rst_len]; omega) (mst_ms hk hD) (rst_byt hD)).mono ?_
  rintro e w' ⟨rfl, h2⟩
  unfold fin
  rw [fin_tag]
  exact ⟨rfl, h2.cast (by rw [rst_len])⟩
/-- pieces that are read -/
def PSrc (B : Nat) (w : World) (bx : List (Nat × Obj)) (a : Option Addr) (n : Nat) (Ds : List (List Int)) : Prop :=
  (Ds.length = n ∧ n ≤ maxLen) ∧ ∀ j, j < n → ∃ b o u, a = some ⟨b, o, none⟩ ∧ (∀ W, Below B w W → (∀ q ∈ bx, W.heap[q.1]? = some q.2) → W.cell? ⟨b, o + j, none⟩ = some u) ∧ Src B w bx u (Ds.getD j [])
theorem PSrc.sub {B : Nat} {w : World} {bx by' : List (Nat × Obj)} {a : Option Addr} {n : Nat} {Ds : List (List Int)} (h : PSrc B w bx a n Ds) (hs : ∀ p ∈ bx, p ∈ by') : PSrc B w by' a n Ds := by
  refine ⟨h.1, fun j hj => ?_⟩
  obtain ⟨b, o, u, h1, h2, h3⟩ := h.2 j hj
  exact ⟨b, o, u, h1, fun W hW hq => h2 W hW (fun q hm => hq q (hs q hm)), h3.sub hs⟩
theorem take_snocL (Ds : List (List Int)) (i : Nat) (h : i < Ds.length) : Ds.take (i + 1) = Ds.take i ++ [Ds.getD i []] := by
  rw [List.take_add_one, List.getD_eq_getElem?_getD, List.getElem?_eq_getElem h]
  rfl
def BytL (Ds : List (List Int)) : Prop := ∀ D ∈ Ds, Byt D
theorem BytL.at {Ds : List (List Int)} (h : BytL Ds) (i : Nat) : Byt (Ds.getD i []) := by
  rw [List.getD_eq_getElem?_getD]
  cases he : Ds[i]? with
  | none => intro x hx; cases hx
  | some D => exact h D (List.mem_of_getElem? he)
theorem BytL.flat {Ds : List (List Int)} (h : BytL Ds) : Byt Ds.flatten := fun x hx => by
  obtain ⟨D, hD, hx⟩ := List.mem_flatten.1 hx
  exact h D hD x hx
theorem BytL.take {Ds : List (List Int)} (h : BytL Ds) (i : Nat) : BytL (Ds.take i) := fun D hD => h D (List.mem_of_mem_take hD)
theorem take_sum : ∀ (Ds : List (List Int)) (i : Nat), (Ds.take i).flatten.length + (Ds.getD i []).length ≤ Ds.flatten.length
  | [], i => by simp
  | D :: r, 0 => by simp
  | D :: r, i + 1 => by
    have := take_sum r i
    simp at this ⊢
    omega
theorem wrapS {i n : Nat} (h : i < n) (hn : n ≤ maxLen) : wrap64 ((i : Int) + 1) = (i : Int) + 1 := IntWalk.wrap64_in _ ⟨by omega, by unfold maxLen at hn; omega⟩
theorem measS {i n : Nat} (h : i < n) (hn : n ≤ maxLen) : n - (intOf (.int .i64 (wrap64 ((i : Int) + 1)))).toNat < n - (intOf (.int .i64 (i : Int))).toNat := by
  rw [wrapS h hn]
  simp only [intOf]
  omega
theorem infoK : (Try.prog.info? 23).map (·.size) = some 32 := by kernel_rfl
theorem list_un : Try.prog.underlying 48 = some (.slice 30) := Try.underlying48
set_option maxRecDepth 100000 in
set_option maxHeartbeats 4000000 in
theorem of_any {B : Nat} {w : World} {rv : Value} {l : List (Int × Int)} {bx : List (Nat × Obj)} {W : World} (h : Ev B w rv l bx W) {key : List Int} (hk : Key32 key) {a : Option Addr} {n cap : Nat} {Ds : List (List Int)} (hP : PSrc B w bx a n Ds) (hD : BytL Ds) (hl : rv ≠ .pointer none → l.length + 25 * n + Ds.flatten.length ≤ 600000) :
    Calls Try.prog 24 #[rv, .agg (VI .u8 key), .slice a n cap] W fun e w' => e = .returned (.agg (VI .u8 (mtag key Ds.flatten))) ∧ Ev B w rv (l ++ olg (Ds.map List.length)) bx w' := by
  obtain ⟨q, hq⟩ : ∃ q, W.heap.size = q := ⟨_, rfl⟩
  have e3 := (h.new (.cells (VI .u8 key) 23)).new (.cells (VI .u8 (List.replicate 16 0)) 36)
  simp only [size_alloc, hq] at e3
  obtain ⟨V0, hV0⟩ : ∃ V, W.alloc (.cells (VI .u8 key) 23) = V := ⟨_, rfl⟩
  obtain ⟨W0, hW0⟩ : ∃ V, V0.alloc (.cells (VI .u8 (List.replicate 16 0)) 36) = V := ⟨_, rfl⟩
  have hsV : V0.heap.size = q + 1 := by rw [← hV0, size_alloc, hq]
  rw [hV0, hW0] at e3
  rw [zero16_lit] at hW0
  have hbxq : ∀ p ∈ bx, p.1 < q := fun p hp => by rw [← hq]; exact heap_lt (h.at' p hp)
  have HLD : Hid (W0.rangeAt q 0 (key.map (Value.int .u8))) := row_range (e3.row mem1)
  have CN : Hid (Calls Try.prog 10 #[rv, .agg (VI .u8 key)] W0 fun e w' => ∃ g, e = .returned (.pointer (some ⟨g, 0, none⟩)) ∧ W0.heap.size ≤ g ∧ Ev B w rv l ((g, mst rv key []) :: (q + 1, .cells (VI .u8 (List.replicate 16 0)) 36) :: (q, .cells (VI .u8 key) 23) :: bx) w') := mnew_any e3 hk
  have hsW : q + 1 < W0.heap.size := e3.lt mem0
  have HS : Hid (V0.heap.size = q + 1 ∧ q + 1 < W0.heap.size) := ⟨hsV, hsW⟩
  have HL : Hid ((rv ≠ .pointer none → l.length + 25 * n + Ds.flatten.length ≤ 600000) ∧ BytL Ds ∧ Key32 key ∧ (∀ p ∈ bx, p.1 < q) ∧ PSrc B w bx a n Ds) := ⟨hl, hD, hk, hbxq, hP⟩
  have HI : Hid ((Try.prog.info? 23).map (·.size) = some (VI .u8 key).size) := by
    have : (Try.prog.info? 23).map (·.size) = some (VI .u8 key).size := by rw [VI_size, hk.len]; exact infoK
    exact this
  have HI' : Hid ((Try.prog.info? 23).map (·.size) = some key.length) := by
    have : (Try.prog.info? 23).map (·.size) = some key.length := by rw [hk.len]; exact infoK
    exact this
  clear e3 h hk hP hD hl hbxq hsV hsW
  go_enter Try.func24, Try.ntmps24
  go_upto_region 2 with (first | (go_at_call 10; refine Calls.mono CN.out ?_; rintro e W1 ⟨g, rfl, hg, h1⟩; have H1 : Hid _ := h1; have HG : Hid (q + 1 < g) := Nat.lt_of_lt_of_le HS.out.2 hg; clear h1 hg) | (with_reducible refine at_list ?_; first | (refine load_midI rfl 23 (.tmp 4) rfl q 0 rfl .u8 key _ HLD.out Try.underlying23 rfl HI'.out ?_)))
  rw [HS.out.1]
  go_wp2_with fail
  go_loopw [8] (fun v w' => ∃ i : Nat, i ≤ n ∧ v = .int .i64 (i : Int) ∧ Ev B w rv (l ++ plog 0 0 ((Ds.take i).map List.length)) ((g, mst rv key (Ds.take i).flatten) :: (q + 1, .cells (VI .u8 (List.replicate 16 0)) 36) :: (q, .cells (VI .u8 key) 23) :: bx) w') (fun v _ => n - (intOf v).toNat)
  case atStart => exact ⟨0, Nat.zero_le _, rfl, H1.out.cast (by simp [plog])⟩
  case round =>
    obtain ⟨i, hi, rfl, he⟩ := hrel
    have hne : ∀ p ∈ (q + 1, Obj.cells (VI .u8 (List.replicate 16 0)) 36) :: (q, .cells (VI .u8 key) 23) :: bx, p.1 ≠ g := fun p hp => by
      have := HG.out
      rcases List.mem_cons.1 hp with rfl | hp
      · show q + 1 ≠ g; omega
      · rcases List.mem_cons.1 hp with rfl | hp
        · show q ≠ g; omega
        · have := HL.out.2.2.2.1 p hp; omega
    have hpl : (plog 0 0 ((Ds.take i).map List.length)).length ≤ 22 * n + (Ds.take i).flatten.length := by
      have h1 := plog_len ((Ds.take i).map List.length) 0 0 (by omega)
      rw [← flat_len] at h1
      have h2 : ((Ds.take i).map List.length).length ≤ n := by rw [List.length_map, List.length_take]; omega
      omega
    have htl := take_sum Ds i
    have HLN : Hid (rv ≠ .pointer none → (l ++ plog 0 0 ((Ds.take i).map List.length)).length + 10 + (Ds.getD i []).length ≤ 700000) := by
      have : rv ≠ .pointer none → (l ++ plog 0 0 ((Ds.take i).map List.length)).length + 10 + (Ds.getD i []).length ≤ 700000 := fun hr => by
        have := HL.out.1 hr
        rw [List.length_append]
        omega
      exact this
    by_cases hlt : i < n
    · have b1 : (i : Int) < (n : Int) := by omega
      have CI : Hid (Calls Try.prog 36 #[rv, .bool true] wr fun e w' => e = .returned (.bool true) ∧ Ev B w rv (l ++ plog 0 0 ((Ds.take i).map List.length) ++ [ifl true]) ((g, mst rv key (Ds.take i).flatten) :: (q + 1, .cells (VI .u8 (List.replicate 16 0)) 36) :: (q, .cells (VI .u8 key) 23) :: bx) w') := v_if he (fun hr => by have := HLN.out hr; omega) true
      obtain ⟨b, o, u, rfl, hcu, hsu⟩ := HL.out.2.2.2.2.2 i hlt
      have HU : Hid ((∀ W, Below B w W → (∀ q ∈ bx, W.heap[q.1]? = some q.2) → W.cell? ⟨b, o + i, none⟩ = some u) ∧ Src B w bx u (Ds.getD i [])) := ⟨hcu, hsu⟩
      have HN : Hid (i < n ∧ (∀ p ∈ (q + 1, Obj.cells (VI .u8 (List.replicate 16 0)) 36) :: (q, .cells (VI .u8 key) 23) :: bx, p.1 ≠ g)) := ⟨hlt, hne⟩
      have HW1 : Hid (wrap64 ((i : Int) + 1) = (i : Int) + 1) := wrapS hlt HL.out.2.2.2.2.1.2
      clear he hcu hsu hne hpl htl hi
      go_wp2_with (first | (go_at_call 36; refine Calls.mono CI.out ?_; rintro e W2 ⟨rfl, h2⟩; have CA : Hid _ := v_at h2 (fun hr => by have := HLN.out hr; simp at this ⊢; omega) (i : Int); clear h2) | (go_at_call 37; refine Calls.mono CA.out ?_; rintro e W3 ⟨rfl, h3⟩; have c3 := HU.out.1 W3 h3.old (fun q hq => h3.row (memr3 hq)); have CW : Hid _ := mwrite_any h3 HN.out.2 (fun hr => by have := HLN.out hr; simp at this ⊢; omega) HL.out.2.2.1 (HL.out.2.1.take i).flat (HL.out.2.1.at i) (HU.out.2.sub (fun p hp => memr2 hp)); clear h3) | (go_at_call 16; refine Calls.mono CW.out ?_; rintro e W4 ⟨rfl, h4⟩; have H4 : Hid _ := h4; clear h4))
      go_roundw
      case rel =>
        refine ⟨i + 1, HN.out.1, by rw [HW1.out]; exact congrArg (Value.int .i64) (by omega), ?_⟩
        have hsn := take_snocL Ds i (by rw [HL.out.2.2.2.2.1.1]; exact HN.out.1)
        rw [hsn, List.map_append, List.flatten_append, List.map_cons, List.map_nil, plog_snoc _ 0 0 _ (by omega)]
        have e1 : ((Ds.take i).map List.length).length = i := by rw [List.length_map, List.length_take, HL.out.2.2.2.2.1.1]; have := HN.out.1; omega
        have e2 : ((Ds.take i).map List.length).sum = (Ds.take i).flatten.length := (flat_len _).symm
        rw [e1, e2]
        have h4 := H4.out
        simp only [List.append_assoc, List.flatten_cons, List.flatten_nil, List.append_nil, Nat.zero_add, List.cons_append, List.nil_append] at h4 ⊢
        exact h4
      case measure => exact measS HN.out.1 HL.out.2.2.2.2.1.2
    · have b1 : ¬ (i : Int) < (n : Int) := by omega
      have ei : i = n := by omega
      have et : Ds.take i = Ds := List.take_of_length_le (by rw [HL.out.2.2.2.2.1.1]; omega)
      have CI : Hid (Calls Try.prog 36 #[rv, .bool false] wr fun e w' => e = .returned (.bool false) ∧ Ev B w rv (l ++ plog 0 0 ((Ds.take i).map List.length) ++ [ifl false]) ((g, mst rv key (Ds.take i).flatten) :: (q + 1, .cells (VI .u8 (List.replicate 16 0)) 36) :: (q, .cells (VI .u8 key) 23) :: bx) w') := v_if he (fun hr => by have := HLN.out hr; omega) false
      rw [et] at CI HLN
      clear he hpl htl hi hne
      go_wp2_with (first | (go_at_call 36; refine Calls.mono CI.out ?_; rintro e W2 ⟨rfl, h2⟩; have CT : Hid _ := mtag_any h2 (fun hr => by have := HLN.out hr; simp at this ⊢; omega) HL.out.2.2.1 HL.out.2.1.flat; clear h2) | (go_at_call 13; refine Calls.mono CT.out ?_; rintro e W3 ⟨rfl, h3⟩; have H3 : Hid _ := h3; clear h3) | (with_reducible refine at_list ?_; first | (refine hold_store 36 (.tmp 6) (.tmp 29) rfl ?_)))
      have h3 := H3.out.flip
      have ht3 := row_there (h3.row mem0)
      refine store_rowI rfl 36 (.tmp 6) (.tmp 29) rfl (q + 1) .u8 (mtag key Ds.flatten) rfl rfl (by rw [mtag_len]; exact ht3) (by rw [mtag_len]; exact infoT) rfl ?_
      have h4 := h3.storeRow (L' := mtag key Ds.flatten) (fun p hp => by
        have := HG.out
        rcases List.mem_cons.1 hp with rfl | hp
        · show g ≠ q + 1; omega
        · rcases List.mem_cons.1 hp with rfl | hp
          · show q ≠ q + 1; omega
          · have := HL.out.2.2.2.1 p hp; omega) (by rw [mtag_len, List.length_replicate])
      obtain ⟨W5, hW5⟩ : ∃ V, W3.setCells (q + 1) 0 (VI .u8 (mtag key Ds.flatten)).toList = V := ⟨_, rfl⟩
      rw [hW5] at h4 ⊢
      have H5 : Hid (Ev B w rv _ bx W5) := h4.tail.tail.tail
      have HR5 : Hid (W5.heap[q + 1]? = some (.cells (VI .u8 (mtag key Ds.flatten)) 36)) := h4.row mem0
      have HI5 : Hid ((Try.prog.info? 36).map (·.size) = some (VI .u8 (mtag key Ds.flatten)).size) := by
        have : (Try.prog.info? 36).map (·.size) = some (VI .u8 (mtag key Ds.flatten)).size := by rw [VI_size, mtag_len]; exact infoT
        exact this
      clear h4 h3 ht3 hW5
      go_wp2
      refine bodyPost_ret (v := .agg (VI .u8 (mtag key Ds.flatten))) ?_ rfl ⟨rfl, H5.out.cast (by unfold olg; rw [flat_len]; simp)⟩
      exact results_cell_row (P := Try.prog) (fn := Try.f24) (p := 6) (ty := 36) rfl _ _ (q + 1) 36 (VI .u8 (mtag key Ds.flatten)) (0, 0) _ rfl HR5.out Try.underlying36 rfl HI5.out
end Go.Proofs.Ytgfamcadgahiiaa
namespace Go.Proofs.Ytgfamcadgahiiaa
set_option linter.unusedSimpArgs false
set_option linter.unusedVariables false
open Go.RowKit Go.Pin
theorem ret_int {k : IntKind} {a b : Int} (h : a = b) : Ending.returned (.int k a) = .returned (.int k b) := by rw [h]
set_option maxHeartbeats 400000 in
theorem equal_any (a b : Int) (w : World) (a0 : 0 ≤ a) (a1 : a < 18446744073709551616) (b0 : 0 ≤ b) (b1 : b < 18446744073709551616) :
    Calls Try.prog 59 #[.int .u64 a, .int .u64 b] w fun e w' => e = .returned (.int .u64 (eqB a b)) ∧ w' = w := by
  have hm := equal_math a b a0 a1 b0 b1
  have H : Hid _ := hm
  clear hm a0 a1 b0 b1
  go_enter Try.func59, Try.ntmps59
  go_wp2
  go_ret
  exact ⟨ret_int H.out, rfl⟩
/-- what has been gathered of the differences after k bytes -/
def dif (a b : List Int) : Nat → Int
  | 0 => 0
  | k + 1 => bits .or .u8 (dif a b k) (bits .xor .u8 (a[k]?.getD 0) (b[k]?.getD 0))
def eqL (a b : List Int) : Int := if a = b then 1 else 0
theorem dif_eq (a b : List Int) (n : Nat) (ha : a.length = n) (hb : b.length = n) (wa : ∀ x ∈ a, 0 ≤ x ∧ x < 256) (wb : ∀ x ∈ b, 0 ≤ x ∧ x < 256) :
    0 ≤ dif a b n ∧ dif a b n < 256 ∧ eqB (dif a b n) 0 = eqL a b := by
  have key : ∀ k, k ≤ n → ∃ x : BitVec 8, dif a b k = (x.toNat : Int) ∧ (x = 0#8 ↔ ∀ i, i < k → a[i]?.getD 0 = b[i]?.getD 0) := by
    intro k
    induction k with
    | zero => intro _; exact ⟨0#8, rfl, by simp⟩
    | succ k ih =>
      intro hk
      obtain ⟨x, hx, hi⟩ := ih (by omega)
      have hak : a[k]?.getD 0 = a[k]'(by omega) := by simp [show k < a.length by omega]
      have hbk : b[k]?.getD 0 = b[k]'(by omega) := by simp [show k < b.length by omega]
      obtain ⟨y, hy⟩ := ofBv8 (wa _ (List.getElem_mem (show k < a.length by omega))).1 (wa _ (List.getElem_mem (show k < a.length by omega))).2
      obtain ⟨z, hz⟩ := ofBv8 (wb _ (List.getElem_mem (show k < b.length by omega))).1 (wb _ (List.getElem_mem (show k < b.length by omega))).2
      refine ⟨x ||| (y ^^^ z), ?_, ?_⟩
      · unfold dif
        rw [hx, hak, hbk, hy, hz, xor8, or8]
      · rw [BitVec.or_eq_zero_iff, hi, BitVec.xor_eq_zero_iff]
        constructor
        · rintro ⟨h1, h2⟩ i hlt
          by_cases e : i = k
          · subst e; rw [hak, hbk, hy, hz, h2]
          · exact h1 i (by omega)
        · intro h1
          refine ⟨fun i hlt => h1 i (by omega), ?_⟩
          have := h1 k (by omega)
          rw [hak, hbk, hy, hz] at this
          exact BitVec.eq_of_toNat_eq (by omega)
  obtain ⟨x, hx, hi⟩ := key n (Nat.le_refl _)
  have := x.isLt
  refine ⟨by omega, by omega, ?_⟩
  unfold eqB eqL
  have h2 : (dif a b n = 0) ↔ a = b := by
    rw [hx]
    constructor
    · intro h
      have hz : x = 0#8 := BitVec.eq_of_toNat_eq (by simp; omega)
      have hall := hi.1 hz
      apply List.ext_getElem (by omega)
      intro i h1 h2
      have := hall i (by omega)
      simpa [h1, h2] using this
    · intro h
      subst h
      rw [hi.2 (fun _ _ => rfl)]
      rfl
  by_cases h : a = b
  · rw [if_pos h, if_pos (h2.2 h)]
  · rw [if_neg h, if_neg (fun e => h (h2.1 e))]
set_option maxRecDepth 100000 in
set_option maxHeartbeats 400000 in
theorem tags_any (a b : List Int) (ha : a.length = 16) (hb : b.length = 16) (wa : ∀ x ∈ a, 0 ≤ x ∧ x < 256) (wb : ∀ x ∈ b, 0 ≤ x ∧ x < 256) (w : World) :
    Calls Try.prog 48 #[.agg (VI .u8 a), .agg (VI .u8 b)] w fun e w' => e = .returned (.int .u64 (eqL a b)) ∧ Below w.heap.size w w' := by
  have hx := fun (i : Nat) (h : i < 16) (w : World) => run_index_row (P := Try.prog) w 36 5 .u8 .i64 16 a i ha h Try.underlying36 Try.underlying5 size_u8
  have hc := fun (i : Nat) (h : i < 16) => VI_at .u8 b i (by omega)
  have sa := VI_size .u8 a
  have sb := VI_size .u8 b
  rw [ha] at sa
  rw [hb] at sb
  have hi : (Try.prog.info? 36).map (·.size) = some (VI .u8 a).size := by rw [sa]; exact infoT
  have HI : Hid _ := hi
  obtain ⟨d0, d1, d2⟩ := dif_eq a b 16 ha hb wa wb
  have HD : Hid _ := d2
  clear wa wb ha hb hi d2
  go_enter Try.func48, Try.ntmps48
  go_wp2_with (refine wpList_load_row rfl 36 _ rfl _ rfl 36 (VI .u8 a) (0, 0) _ (heap_alloc2_old w _ _) Try.underlying36 rfl HI.out ?_)
  go_loop [5, 9] (fun d i => ∃ k : Nat, k ≤ 16 ∧ i = .int .i64 k ∧ d = .int .u8 (dif a b k)) (fun _ i => 16 - (intOf i).toNat)
  case atStart => exact ⟨0, Nat.zero_le _, rfl, rfl⟩
  case round =>
    obtain ⟨k, hk, rfl, rfl⟩ := hrel
    by_cases hlt : k < 16
    · have hxk := hx k hlt
      go_wp2
      go_round
      case rel => exact ⟨k + 1, by omega, by go_num, rfl⟩
      case measure => simp [intOf]; omega
    · have hk' : k = 16 := by omega
      subst hk'
      go_wp2_with fail
      refine (equal_any _ _ _ (by omega) (by omega) (by omega) (by omega)).mono ?_
      rintro e w' ⟨rfl, rfl⟩
      go_wp2_with fail
      go_ret
      exact ⟨ret_int HD.out, ((Below.refl _ _).alloc (Nat.le_refl _) _).alloc (by simp) _⟩
end Go.Proofs.Ytgfamcadgahiiaa
