import Derived.Test.YtdakhiafagambaaDoorFrB
/- stage 20: the document's own Put, Feed, Next -/
namespace Go.Proofs.YtdakhiafagambaaDoor
set_option linter.unusedSimpArgs false
set_option linter.unusedVariables false
open Go.ChangeShapes Go.WideShapes Go.ChangeAt Go.RowKit Go.Pin
/-- a frame -/
def frm (M : List Int) : List Int := [((M.length / 256 : Nat) : Int), ((M.length % 256 : Nat) : Int)] ++ M
theorem frm_len (M : List Int) : (frm M).length = M.length + 2 := by simp [frm]
/-- an append of bytes that are read, on a list of one's own -/
theorem app_rd {w W : World} {q : Nat} {v : Value} {n : Nat} {X : List Int} (ho : w.ownsRow q 5 1 v n (X.map (Value.int .u8))) {u : Value} {C : List Int} (hu : RdB w u C) (hn : n + C.length ≤ 1000000) (hq : q ≤ w.heap.size) (hb : Below q W w) :
    ∀ ty, ∃ v' w', (Builtin.append_ #[22, 22] ty #[v, u]).run Tryd.prog w = .ok v' w' ∧ (w'.ownsRow q 5 1 v' (n + C.length) ((X ++ C).map (Value.int .u8)) ∧ Below q W w' ∧ (∃ a c, v' = .slice a (n + C.length) c)) := fun ty => by
  obtain ⟨v', w', hr, h2, h3, h4⟩ := own_appB ho hu hn hq ty
  refine ⟨v', w', hr, by rw [List.map_append]; exact h2, grown_below hb ho (Nat.le_refl _) hq h3, own_slice' h2⟩
set_option maxRecDepth 100000 in
set_option maxHeartbeats 8000000 in
theorem rput_any {W : World} {vd vm : Value} {D M : List Int} (hd : RdB W vd D) (hm : RdB W vm M) (hD : D.length ≤ 300000) (hM : M.length ≤ 300000) :
    Calls Tryd.prog 11 #[vd, vm] W fun e w' => ∃ v c, e = .returned (.tuple #[v, .int .i64 c]) ∧ ((65535 < M.length → c = 3 ∧ v = .slice none 0 0) ∧ (¬ 65535 < M.length → c = 0 ∧ w'.ownsRow W.heap.size 5 1 v (D.length + 2 + M.length) ((D ++ frm M).map (Value.int .u8)))) ∧ Below W.heap.size W w' := by
  have hdB := fun Y (hY : Below W.heap.size W Y) => hd.below hY
  have hmB := fun Y (hY : Below W.heap.size W Y) => hm.below hY
  obtain ⟨ad, cd, rfl, -⟩ := id hd
  obtain ⟨am, cm, rfl, -⟩ := id hm
  obtain ⟨q, hq⟩ : ∃ q, W.heap.size = q := ⟨_, rfl⟩
  obtain ⟨nD, hnD⟩ : ∃ n, D.length = n := ⟨_, rfl⟩
  obtain ⟨nM, hnM⟩ : ∃ n, M.length = n := ⟨_, rfl⟩
  simp only [hq, hnD, hnM] at hdB hmB hD hM ⊢
  have HD : Hid (∀ Y, Below q W Y → RdB Y (.slice ad nD cd) D) := hdB
  have HM : Hid (∀ Y, Below q W Y → RdB Y (.slice am nM cm) M) := hmB
  have HL : Hid (D.length = nD ∧ M.length = nM ∧ nD ≤ 300000 ∧ nM ≤ 300000 ∧ W.heap.size = q) := ⟨hnD, hnM, hD, hM, hq⟩
  clear hdB hmB hd hm hnD hnM hq
  by_cases hlong : 65535 < nM
  · have c1 : (nM : Int) > 65535 := by omega
    have c2 : (65535 : Int) < (nM : Int) := by omega
    have HLg : Hid (65535 < nM) := hlong
    clear hlong hD hM
    go_enter Tryd.func11, Tryd.ntmps11
    go_wp2
    go_ret2
    exact ⟨_, _, rfl, ⟨fun _ => ⟨rfl, rfl⟩, fun h => absurd HLg.out h⟩, Below.refl _ _⟩
  · have c1 : ¬ (nM : Int) > 65535 := by omega
    have c2 : ¬ (65535 : Int) < (nM : Int) := by omega
    have happ := app_rd (q := q) (W := W) (n := 0) (X := []) (own_nil0 W q _ _) (HD.out W (Below.refl _ _)) (by have := HL.out; omega) (by rw [HL.out.2.2.2.2]; exact Nat.le_refl _) (Below.refl _ _)
    rw [HL.out.1] at happ
    simp only [Nat.zero_add, List.nil_append] at happ
    have HA1 : Hid _ := happ
    have HLg : Hid (¬ 65535 < nM) := hlong
    have e1 : (nM : Int).tdiv 256 = ((nM / 256 : Nat) : Int) := by rw [Int.tdiv_eq_ediv_of_nonneg (by omega)]; rfl
    have e2 : (nM : Int).tmod 256 = ((nM % 256 : Nat) : Int) := by rw [Int.tmod_eq_emod_of_nonneg (by omega)]; rfl
    have e3 : IntKind.u8.wrap ((nM / 256 : Nat) : Int) = ((nM / 256 : Nat) : Int) := by rw [IntKind.wrap_u8']; omega
    have e4 : IntKind.u8.wrap ((nM % 256 : Nat) : Int) = ((nM % 256 : Nat) : Int) := by rw [IntKind.wrap_u8']; omega
    clear hlong hD hM happ
    go_enter Tryd.func11, Tryd.ntmps11
    go_upto_region 5 with (at_builtin; go_loud (refine wpList_app _ rfl _ _ 22 22 rfl _ _ rfl rfl HA1.out ?_; rintro v1 w1 ⟨ho1, hb1, ⟨a1, k1, rfl⟩⟩; have H1 : Hid (w1.ownsRow q 5 1 (.slice a1 nD k1) nD (D.map (Value.int .u8)) ∧ Below q W w1) := ⟨ho1, hb1⟩; clear ho1 hb1 HA1))
    have hal : Below w1.heap.size w1 (w1.alloc (.cells #[.int .u8 ((nM / 256 : Nat) : Int), .int .u8 ((nM % 256 : Nat) : Int)] 5)) := (Below.refl _ _).alloc (Nat.le_refl _) _
    have hqw : q ≤ w1.heap.size := by have := H1.out.2.size; have := HL.out; omega
    have hrd : RdB (w1.alloc (.cells #[.int .u8 ((nM / 256 : Nat) : Int), .int .u8 ((nM % 256 : Nat) : Int)] 5)) (.slice (some ⟨w1.heap.size, 0, none⟩) 2 2) [((nM / 256 : Nat) : Int), ((nM % 256 : Nat) : Int)] := row_rd (M := [((nM / 256 : Nat) : Int), ((nM % 256 : Nat) : Int)]) (heap_alloc_new _ _) (Nat.le_refl _) (Nat.le_refl _) (by decide)
    have happ := app_rd (W := W) (owns_below hal H1.out.1) hrd (by have := HL.out; simp; omega) (by have := hal.size; omega) (H1.out.2.trans (hal.mono hqw))
    simp only [List.length_cons, List.length_nil, Nat.zero_add, Nat.reduceAdd] at happ
    have HA2 : Hid _ := happ
    clear happ hrd hal hqw
    go_upto_region 6 with (at_builtin; go_loud (refine wpList_app _ rfl _ _ 22 22 rfl _ _ rfl rfl HA2.out ?_; rintro v2 w2 ⟨ho2, hb2, ⟨a2, k2, rfl⟩⟩; have H2 : Hid (w2.ownsRow q 5 1 (.slice a2 (nD + 2) k2) (nD + 2) ((D ++ [((nM / 256 : Nat) : Int), ((nM % 256 : Nat) : Int)]).map (Value.int .u8)) ∧ Below q W w2) := ⟨ho2, hb2⟩; clear ho2 hb2 HA2))
    have happ := app_rd (W := W) H2.out.1 (HM.out w2 H2.out.2) (by have := HL.out; omega) (by have := H2.out.2.size; have := HL.out; omega) H2.out.2
    rw [HL.out.2.1] at happ
    have HA3 : Hid _ := happ
    clear happ
    go_wp2_with (at_builtin; go_loud (refine wpList_app _ rfl _ _ 22 22 rfl _ _ rfl rfl HA3.out ?_; rintro v3 w3 ⟨ho3, hb3, ⟨a3, k3, rfl⟩⟩; have H3 : Hid (w3.ownsRow q 5 1 (.slice a3 (nD + 2 + nM) k3) (nD + 2 + nM) ((D ++ [((nM / 256 : Nat) : Int), ((nM % 256 : Nat) : Int)] ++ M).map (Value.int .u8)) ∧ Below q W w3) := ⟨ho3, hb3⟩; clear ho3 hb3 HA3))
    go_ret2
    refine ⟨.slice a3 (nD + 2 + nM) k3, 0, rfl, ⟨fun h => absurd h HLg.out, fun _ => ⟨rfl, ?_⟩⟩, H3.out.2⟩
    have hx := H3.out.1
    rw [List.append_assoc] at hx
    unfold frm
    rw [HL.out.2.1]
    simpa using hx
theorem ipK (a : Value) : (Tryd.prog.info? 41).map (·.size) = some (#[a] : Array Value).size := by kernel_rfl
/-- the boxes of a Reader that came in and of the one that is answered -/
structure F2 (q : Nat) (W : World) (vh : Value) (w : World) : Prop where
  old : Below q W w
  lt : q + 1 < w.heap.size
  row : w.heap[q]? = some (.cells #[vh] 41)
  row2 : w.heap[q + 1]? = some (.cells #[.slice none 0 0] 41)
theorem F2.low {q : Nat} {W w w' : World} {vh : Value} (h : F2 q W vh w) (hb : Below (q + 2) w w') : F2 q W vh w' :=
  ⟨h.old.trans (hb.mono (by omega)), Nat.lt_of_lt_of_le h.lt hb.size, (hb.block q (by omega)).trans h.row, (hb.block (q + 1) (by omega)).trans h.row2⟩
theorem f2_new (W : World) (vh : Value) : F2 W.heap.size W vh ((W.alloc (.cells #[vh] 41)).alloc (.cells #[.slice none 0 0] 41)) := by
  have e1 : (W.alloc (.cells #[vh] 41)).heap.size = W.heap.size + 1 := size_alloc _ _
  refine ⟨((Below.refl _ _).alloc (Nat.le_refl _) _).alloc (by rw [e1]; omega) _, by rw [size_alloc, e1]; omega, ?_, ?_⟩
  · rw [Below.heap_alloc _ _ _ (by rw [e1]; omega)]
    exact heap_alloc_new _ _
  · have := heap_alloc_new (W.alloc (.cells #[vh] 41)) (.cells #[.slice none 0 0] 41)
    rw [e1] at this
    exact this
theorem F2.c0 {q : Nat} {W w : World} {vh : Value} (h : F2 q W vh w) : w.cell? ⟨q, 0, none⟩ = some vh := by rw [cell_of_row _ _ _ _ _ _ h.row]; rfl
theorem F2.c1 {q : Nat} {W w : World} {vh : Value} (h : F2 q W vh w) : w.cell? ⟨q + 1, 0, none⟩ = some (.slice none 0 0) := by rw [cell_of_row _ _ _ _ _ _ h.row2]; rfl
theorem F2.fz {q : Nat} {W w : World} {vh : Value} (h : F2 q W vh w) : w.frozen? ⟨q + 1, 0, none⟩ = false := frozen_of_row _ _ _ _ _ h.row2
theorem F2.set {q : Nat} {W w : World} {vh : Value} (h : F2 q W vh w) (v : Value) : Below q W (w.setCell ⟨q + 1, 0, none⟩ v) ∧ (w.setCell ⟨q + 1, 0, none⟩ v).heap[q + 1]? = some (.cells #[v] 41) ∧ ∀ k, k ≠ q + 1 → (w.setCell ⟨q + 1, 0, none⟩ v).heap[k]? = w.heap[k]? :=
  ⟨h.old.setCell (p := ⟨q + 1, 0, none⟩) (Nat.le_succ _) _, by rw [heap_setCell_same w _ _ _ _ _ h.row2]; rfl, fun k hk => heap_setCell_other _ _ _ _ hk⟩
set_option maxRecDepth 100000 in
set_option maxHeartbeats 8000000 in
theorem rfeed_any {W : World} {vh vp : Value} {H C : List Int} (hh : RdB W vh H) (hp : RdB W vp C) (hH : H.length + C.length ≤ 1000000) :
    Calls Tryd.prog 23 #[.agg #[vh], vp] W fun e w' => ∃ v, e = .returned (.agg #[v]) ∧ w'.ownsRow W.heap.size 5 1 v (H.length + C.length) ((H ++ C).map (Value.int .u8)) ∧ Below W.heap.size W w' := by
  have hhB := fun Y (hY : Below W.heap.size W Y) => hh.below hY
  have hpB := fun Y (hY : Below W.heap.size W Y) => hp.below hY
  obtain ⟨ah, ch, rfl, -⟩ := id hh
  obtain ⟨ap, cp, rfl, -⟩ := id hp
  have hst := f2_new W (.slice ah H.length ch)
  obtain ⟨q, hq⟩ : ∃ q, W.heap.size = q := ⟨_, rfl⟩
  obtain ⟨nH, hnH⟩ : ∃ n, H.length = n := ⟨_, rfl⟩
  obtain ⟨nC, hnC⟩ : ∃ n, C.length = n := ⟨_, rfl⟩
  simp only [hq, hnH, hnC] at hhB hpB hH hst ⊢
  have HH : Hid (∀ Y, Below q W Y → RdB Y (.slice ah nH ch) H) := hhB
  have HP : Hid (∀ Y, Below q W Y → RdB Y (.slice ap nC cp) C) := hpB
  have HL : Hid (H.length = nH ∧ C.length = nC ∧ nH + nC ≤ 1000000 ∧ W.heap.size = q) := ⟨hnH, hnC, hH, hq⟩
  clear hhB hpB hh hp hnH hnC hH
  obtain ⟨W0, hW0⟩ : ∃ W0, (W.alloc (.cells #[.slice ah nH ch] 41)).alloc (.cells #[.slice none 0 0] 41) = W0 := ⟨_, rfl⟩
  rw [hW0] at hst
  have H0 : Hid (F2 q W (.slice ah nH ch) W0) := hst
  have happ := app_rd (q := q + 2) (W := W0) (n := 0) (X := []) (own_nil0 W0 (q + 2) _ _) (HH.out W0 hst.old) (by have := HL.out; omega) (by have := hst.lt; omega) (Below.refl _ _)
  rw [HL.out.1] at happ
  simp only [Nat.zero_add, List.nil_append] at happ
  have HA1 : Hid _ := happ
  have c0 := hst.c0
  clear happ hst
  go_enter Tryd.func23, Tryd.ntmps23
  go_upto_region 2 with (fail)
  clear hW0 hq
  go_upto_region 3 with (at_builtin; go_loud (refine wpList_app _ rfl _ _ 22 22 rfl _ _ rfl rfl HA1.out ?_; rintro v1 w1 ⟨ho1, hb1, ⟨a1, k1, rfl⟩⟩; have H1 : Hid (w1.ownsRow (q + 2) 5 1 (.slice a1 nH k1) nH (H.map (Value.int .u8)) ∧ F2 q W (.slice ah nH ch) w1) := ⟨ho1, H0.out.low hb1⟩; clear ho1 hb1 HA1 c0))
  have happ := app_rd (W := w1) H1.out.1 (HP.out w1 H1.out.2.old) (by have := HL.out; omega) (by have := H1.out.2.lt; omega) (Below.refl _ _)
  rw [HL.out.2.1] at happ
  have HA2 : Hid _ := happ
  clear happ
  go_upto_region 4 with (at_builtin; go_loud (refine wpList_app _ rfl _ _ 22 22 rfl _ _ rfl rfl HA2.out ?_; rintro v2 w2 ⟨ho2, hb2, ⟨a2, k2, rfl⟩⟩; have H2 : Hid (w2.ownsRow (q + 2) 5 1 (.slice a2 (nH + nC) k2) (nH + nC) ((H ++ C).map (Value.int .u8)) ∧ F2 q W (.slice ah nH ch) w2) := ⟨ho2, H1.out.2.low hb2⟩; clear ho2 hb2 HA2))
  have c1 := H2.out.2.c1
  have f1 := H2.out.2.fz
  go_wp2
  have hx := H2.out.2.set (.slice a2 (nH + nC) k2)
  refine bodyPost_ret (v := .agg #[.slice a2 (nH + nC) k2]) ?_ rfl ⟨_, rfl, own_dn (own_keep H2.out.1 (fun g hg => hx.2.2 g (by have := (H2.out.1.lt g hg).1; omega))) (by omega), hx.1⟩
  exact results_cell_row (P := Tryd.prog) (fn := Tryd.f23) (p := 4) (ty := 41) rfl _ _ (q + 1) 41 #[.slice a2 (nH + nC) k2] (0, 0) _ rfl hx.2.1 Tryd.underlying41 rfl (ipK _)
/-- the first frame of what is kept -/
def hdn (H : List Int) : Nat := (256 * H.getD 0 0 + H.getD 1 0).toNat
def nxt (H : List Int) : Option (List Int × List Int) := if H.length < 2 ∨ H.length < 2 + hdn H then none else some ((H.drop 2).take (hdn H), H.drop (2 + hdn H))
/-- what the document's Next answers -/
def NxP (H : List Int) (vh : Value) (q : Nat) (W : World) (e : Ending) (w' : World) : Prop :=
  ∃ v b v2, e = .returned (.tuple #[v, .bool b, .agg #[v2]]) ∧ Below q W w' ∧ match nxt H with | none => v = .slice none 0 0 ∧ b = false ∧ v2 = vh | some (m, r) => b = true ∧ w'.ownsRow q 5 1 v m.length (m.map (Value.int .u8)) ∧ RdB w' v2 r ∧ ∀ k, v2.ownBlock = some k → vh.ownBlock = some k
/-- where what is behind k bytes begins -/
def adv (a : Option Addr) (cap k : Nat) : Option Addr := if cap = k then a else a.map (·.add k)
theorem size_u8 (w : World) : (sizeOf 5).run Tryd.prog w = .ok 1 w := by kernel_rfl
theorem run_from (w : World) (a : Option Addr) (n cap k : Nat) (x : Int) (hx : x = (k : Int)) (hk : k ≤ n) (hn : n ≤ cap) : (Instr.slice 22 (.slice a n cap) (some (.int .i64 x)) none none).run Tryd.prog w = .ok (.slice (adv a cap k) (n - k) (cap - k)) w := by
  subst hx
  have h1 : ((k : Nat) : Int) ≤ (n : Int) := by omega
  have h2 : ((n : Nat) : Int) ≤ (cap : Int) := by omega
  simp [Instr.slice, run_underlying Tryd.underlying22, Instr.sliceBounds, run_sliceBound, size_u8, sliced, h1, h2, hk, hn, adv]
theorem run_mid (w : World) (a : Option Addr) (n cap x y : Nat) (x' y' : Int) (hx : x' = (x : Int)) (hy : y' = (y : Int)) (hxy : x ≤ y) (hyn : y ≤ cap) : (Instr.slice 22 (.slice a n cap) (some (.int .i64 x')) (some (.int .i64 y')) none).run Tryd.prog w = .ok (.slice (adv a cap x) (y - x) (cap - x)) w := by
  subst hx; subst hy
  have h1 : ((x : Nat) : Int) ≤ (y : Int) := by omega
  have h2 : ((y : Nat) : Int) ≤ (cap : Int) := by omega
  simp [Instr.slice, run_underlying Tryd.underlying22, Instr.sliceBounds, run_sliceBound, size_u8, sliced, h1, h2, hxy, hyn, adv]
theorem RdB.mid {w : World} {a : Option Addr} {n cap : Nat} {H : List Int} (h : RdB w (.slice a n cap) H) {i j : Nat} (hi : i ≤ j) (hj : j ≤ n) : RdB w (.slice (adv a cap i) (j - i) (cap - i)) ((H.drop i).take (j - i)) := by
  obtain ⟨a', cap', e, ⟨h1, h0⟩, h2, h3⟩ := h
  injection e with e1 e2 e3
  subst e1 e3
  have hl : ((H.drop i).take (j - i)).length = j - i := by simp; omega
  refine ⟨adv a cap i, cap - i, by rw [hl], ⟨by rw [hl]; omega, fun e => ?_⟩, by rw [hl]; omega, ?_⟩
  · unfold adv at e
    split at e
    · omega
    · cases a with
      | none => have := h0 rfl; omega
      | some _ => simp at e
  · by_cases hz : j - i = 0
    · exact .inl (by rw [hz]; simp)
    rcases h3 with h3 | ⟨b', o', e', h4⟩
    · subst h3
      exact .inl (by simp)
    · subst e'
      refine .inr ⟨b', o' + i, by unfold adv; rw [if_neg (by omega)]; simp [add_mid], fun t u hu => ?_⟩
      have ht : t < j - i := by have := (List.getElem?_eq_some_iff.1 hu).1; simp at this; omega
      rw [List.getElem?_map, List.getElem?_take_of_lt ht, List.getElem?_drop] at hu
      have := h4 (i + t) u (by rw [List.getElem?_map]; exact hu)
      rw [Nat.add_assoc]
      exact this
theorem results_ttc {P : Program} {fn : Func} {a b p : Tmp} {ty : TypeId} (h : fn.results = #[.tmp a, .tmp b, .cell p ty]) (tmps : Array Value) (w : World) (g : Nat) (t : TypeId) (cs : Array Value) (fr : Nat × Nat) (d : TypeDesc)
    (hp : tmps.getD p undef = .pointer (some ⟨g, 0, none⟩)) (hg : w.heap[g]? = some (.cells cs t fr)) (hu : P.underlying ty = some d) (hd : (match d with | .struct _ | .array _ _ => true | _ => false) = true) (hi : (P.info? ty).map (·.size) = some cs.size) :
    (results fn tmps).run P w = .ok (.tuple #[tmps.getD a undef, tmps.getD b undef, .agg cs]) w := by
  have hp' : tmps[p]?.getD undef = .pointer (some ⟨g, 0, none⟩) := by simpa using hp
  simp only [results, h]
  simp [Sem.run_bind, Result.andThen, hp', asAddr, run_loadVar_row w g t ty cs fr d hg hu hd hi]
set_option maxRecDepth 100000 in
set_option maxHeartbeats 8000000 in
theorem rnext_any {W : World} {vh : Value} {H : List Int} (hh : RdB W vh H) (hB : Byb H) (hH : H.length ≤ 1000000) :
    Calls Tryd.prog 18 #[.agg #[vh]] W (NxP H vh W.heap.size W) := by
  have hhB := fun Y (hY : Below W.heap.size W Y) => hh.below hY
  obtain ⟨ah, ch, rfl, ⟨hcap, -⟩, -⟩ := id hh
  have hst := f2_new W (.slice ah H.length ch)
  obtain ⟨q, hq⟩ : ∃ q, W.heap.size = q := ⟨_, rfl⟩
  obtain ⟨-, -, hat⟩ := rdb_at hq hh
  obtain ⟨nH, hnH⟩ : ∃ n, H.length = n := ⟨_, rfl⟩
  have hN : nxt H = if nH < 2 ∨ nH < 2 + hdn H then none else some ((H.drop 2).take (hdn H), H.drop (2 + hdn H)) := by rw [← hnH]; rfl
  simp only [hq, hnH] at hhB hH hst hat hcap ⊢
  have HH : Hid (∀ Y, Below q W Y → RdB Y (.slice ah nH ch) H) := hhB
  have HL : Hid (H.length = nH ∧ nH ≤ 1000000 ∧ W.heap.size = q ∧ nH ≤ ch) := ⟨hnH, hH, hq, hcap⟩
  have HN : Hid _ := hN
  obtain ⟨W0, hW0⟩ : ∃ W0, (W.alloc (.cells #[.slice ah nH ch] 41)).alloc (.cells #[.slice none 0 0] 41) = W0 := ⟨_, rfl⟩
  rw [hW0] at hst
  have H0 : Hid (F2 q W (.slice ah nH ch) W0) := hst
  have c0 := hst.c0
  have c1 := hst.c1
  have f1 := hst.fz
  have q1 : ¬ q = q + 1 := by omega
  have q2 : ¬ q + 1 = q := by omega
  clear hhB hh hH hst hN hcap
  by_cases hs : nH < 2
  · have b1 : (nH : Int) < 2 := by omega
    have HN2 : Hid (nxt H = none) := by show nxt H = none; rw [HN.out, if_pos (.inl hs)]
    clear hs hat hnH HN
    go_enter Tryd.func18, Tryd.ntmps18
    go_upto_region 2 with (fail)
    clear hW0 hq
    go_region
    all_goals
      go_wp2
      have hx := H0.out.set (.slice ah nH ch)
      refine bodyPost_ret (v := .tuple #[.slice none 0 0, .bool false, .agg #[.slice ah nH ch]]) ?_ rfl ⟨_, _, _, rfl, hx.1.drew, by rw [HN2.out]; exact ⟨rfl, rfl, rfl⟩⟩
      exact results_ttc (P := Tryd.prog) (fn := Tryd.f18) (a := 2) (b := 3) (p := 4) (ty := 41) rfl _ _ (q + 1) 41 #[.slice ah nH ch] (0, 0) _ rfl hx.2.1 Tryd.underlying41 rfl (ipK _)
  · have b1 : ¬ (nH : Int) < 2 := by omega
    obtain ⟨b, o, rfl, x0⟩ := hat 0 (by omega)
    obtain ⟨b', o', e, x1⟩ := hat 1 (by omega)
    injection e with e
    injection e with e1 e2
    subst e1 e2
    have x0 := x0 W0 H0.out.old
    have x1 := x1 W0 H0.out.old
    have hb0 := hB (H.getD 0 0) (by rw [List.getD_eq_getElem?_getD, List.getElem?_eq_getElem (by omega)]; exact List.getElem_mem _)
    have hb1 := hB (H.getD 1 0) (by rw [List.getD_eq_getElem?_getD, List.getElem?_eq_getElem (by omega)]; exact List.getElem_mem _)
    have hd : hdn H = (256 * H.getD 0 0 + H.getD 1 0).toNat := rfl
    generalize H.getD 0 0 = h0 at x0 hb0 hd
    generalize H.getD 1 0 = h1 at x1 hb1 hd
    rw [Nat.add_zero] at x0
    have e1 : IntKind.i64.wrap h0 = h0 := IntWalk.i64_in _ ⟨by omega, by omega⟩
    have e2 : IntKind.i64.wrap h1 = h1 := IntWalk.i64_in _ ⟨by omega, by omega⟩
    have HD : Hid (256 * h0 + h1 = ((hdn H : Nat) : Int) ∧ hdn H ≤ 65535) := ⟨by rw [hd]; omega, by rw [hd]; omega⟩
    obtain ⟨n, hn⟩ : ∃ n, hdn H = n := ⟨_, rfl⟩
    have hsum : 256 * h0 + h1 = (n : Int) := by rw [← hn]; exact HD.out.1
    have hn5 : n ≤ 65535 := by rw [← hn]; exact HD.out.2
    have HN3 : Hid (nxt H = if nH < 2 + n then none else some ((H.drop 2).take n, H.drop (2 + n))) := by
      show nxt H = _
      rw [HN.out, hn]
      by_cases h : nH < 2 + n
      · rw [if_pos (.inr h), if_pos h]
      · rw [if_neg (by omega), if_neg h]
    have HLT : Hid (2 ≤ nH ∧ n ≤ 65535 ∧ 0 ≤ h0 ∧ h0 < 256 ∧ 0 ≤ h1 ∧ h1 < 256) := ⟨by omega, hn5, hb0.1, hb0.2, hb1.1, hb1.2⟩
    clear hs hat hnH HN hd hn HD
    go_enter Tryd.func18, Tryd.ntmps18
    go_upto_region 3 with (fail)
    clear hW0 hq
    go_quiet (fail)
    have hb1' : Below (q + 2) W0 (W0.drewN nq) := drewN_below (Below.refl _ _) _
    have h1 := H0.out.low hb1'
    obtain ⟨W1, hW1⟩ : ∃ W1, W0.drewN nq = W1 := ⟨_, rfl⟩
    rw [hW1] at h1 ⊢
    have H1 : Hid (F2 q W (.slice (some ⟨b, o, none⟩) nH ch) W1) := h1
    clear hb1' hW1 c0 c1 f1 x0 x1 e1 e2 hsum hb0 hb1 hB hn5
    have c0 := h1.c0
    have c1 := h1.c1
    have f1 := h1.fz
    clear h1
    by_cases hs : nH < 2 + n
    · have b2 : (nH : Int) < 2 + (n : Int) := by omega
      have HN2 : Hid (nxt H = none) := by show nxt H = none; rw [HN3.out, if_pos hs]
      have hw : IntKind.i64.wrap (2 + (n : Int)) = 2 + (n : Int) ∧ wrap64 (2 + (n : Int)) = 2 + (n : Int) := by have := HLT.out; rw [IntWalk.i64_in _ ⟨by omega, by omega⟩, IntWalk.wrap64_in _ ⟨by omega, by omega⟩]; exact ⟨rfl, rfl⟩
      obtain ⟨w1, w2⟩ := hw
      clear hs HN3
      go_upto_region 5 with (fail)
      go_region
      all_goals
        go_wp2
        have hx := H1.out.set (.slice (some ⟨b, o, none⟩) nH ch)
        refine bodyPost_ret (v := .tuple #[.slice none 0 0, .bool false, .agg #[.slice (some ⟨b, o, none⟩) nH ch]]) ?_ rfl ⟨_, _, _, rfl, hx.1.drew, by rw [HN2.out]; exact ⟨rfl, rfl, rfl⟩⟩
        exact results_ttc (P := Tryd.prog) (fn := Tryd.f18) (a := 2) (b := 3) (p := 4) (ty := 41) rfl _ _ (q + 1) 41 #[.slice (some ⟨b, o, none⟩) nH ch] (0, 0) _ rfl hx.2.1 Tryd.underlying41 rfl (ipK _)
    · have b2 : ¬ (nH : Int) < 2 + (n : Int) := by omega
      have HN2 : Hid (nxt H = some ((H.drop 2).take n, H.drop (2 + n))) := by show nxt H = _; rw [HN3.out, if_neg hs]
      have hw : IntKind.i64.wrap (2 + (n : Int)) = 2 + (n : Int) ∧ wrap64 (2 + (n : Int)) = 2 + (n : Int) := by have := HLT.out; rw [IntWalk.i64_in _ ⟨by omega, by omega⟩, IntWalk.wrap64_in _ ⟨by omega, by omega⟩]; exact ⟨rfl, rfl⟩
      obtain ⟨w1, w2⟩ := hw
      have rm := fun w => run_mid w (some ⟨b, o, none⟩) nH ch 2 (2 + n) 2 (2 + (n : Int)) rfl (by omega) (by omega) (by have := HL.out; omega)
      have rf := fun w => run_from w (some ⟨b, o, none⟩) nH ch (2 + n) (2 + (n : Int)) (by omega) (by omega) HL.out.2.2.2
      simp only [Nat.add_sub_cancel_left] at rm
      have hrd := (HH.out W1 H1.out.old).mid (i := 2) (j := 2 + n) (by omega) (by omega)
      have HR2 : Hid (∀ Y, Below q W Y → RdB Y (.slice (adv (some ⟨b, o, none⟩) ch (2 + n)) (nH - (2 + n)) (ch - (2 + n))) (H.drop (2 + n))) := fun Y hY => by
        have := (HH.out Y hY).mid (i := 2 + n) (j := nH) (by omega) (Nat.le_refl _)
        rw [List.take_of_length_le (by rw [List.length_drop, HL.out.1]; exact Nat.le_refl _)] at this
        exact this
      have hlen : ((H.drop 2).take n).length = n := by have := HL.out.1; simp; omega
      simp only [Nat.add_sub_cancel_left] at hrd
      have hob : ∀ m d k, (Value.slice (adv (some ⟨b, o, none⟩) ch (2 + n)) m d).ownBlock = some k → some b = some k := fun m d k hk => by
        unfold adv at hk
        split at hk
        · exact hk
        · rw [Option.map_some, add_mid] at hk
          exact hk
      obtain ⟨a3, ha3⟩ : ∃ a3, adv (some ⟨b, o, none⟩) ch 2 = a3 := ⟨_, rfl⟩
      obtain ⟨a4, ha4⟩ : ∃ a4, adv (some ⟨b, o, none⟩) ch (2 + n) = a4 := ⟨_, rfl⟩
      obtain ⟨k3, hk3⟩ : ∃ k, ch - 2 = k := ⟨_, rfl⟩
      obtain ⟨k4, hk4⟩ : ∃ k, ch - (2 + n) = k := ⟨_, rfl⟩
      obtain ⟨m4, hm4⟩ : ∃ k, nH - (2 + n) = k := ⟨_, rfl⟩
      simp only [ha3, hk3, ha4, hk4, hm4] at rm rf hrd HR2 hob
      have HOB : Hid (∀ m d k, (Value.slice a4 m d).ownBlock = some k → some b = some k) := hob
      clear hob
      have happ := app_rd (q := q + 2) (W := W1) (n := 0) (X := []) (own_nil0 W1 (q + 2) _ _) hrd (by rw [hlen]; have := HLT.out; omega) (by have := H1.out.lt; omega) (Below.refl _ _)
      rw [hlen] at happ
      simp only [Nat.zero_add, List.nil_append] at happ
      have HA1 : Hid _ := happ
      have HLN : Hid (((H.drop 2).take n).length = n) := hlen
      clear happ hrd ha3 ha4 hk3 hk4 hm4 hs HN3 hlen
      go_upto_region 8 with (at_builtin; go_loud (refine wpList_app _ rfl _ _ 22 22 rfl _ _ rfl rfl HA1.out ?_; rintro v1 w3 ⟨ho1, hb1, ⟨a1, k1, rfl⟩⟩; have H3 : Hid (w3.ownsRow (q + 2) 5 1 (.slice a1 n k1) n (((H.drop 2).take n).map (Value.int .u8)) ∧ F2 q W (.slice (some ⟨b, o, none⟩) nH ch) w3) := ⟨ho1, H1.out.low hb1⟩; clear ho1 hb1 HA1 c0 c1 f1))
      have c0 := H3.out.2.c0
      have c1 := H3.out.2.c1
      have f1 := H3.out.2.fz
      go_region
      all_goals
        go_wp2
        have hx := H3.out.2.set (.slice a4 m4 k4)
        have hd : Below q W (w3.setCell ⟨q + 1, 0, none⟩ (.slice a4 m4 k4)).drew := hx.1.drew
        refine bodyPost_ret (v := .tuple #[.slice a1 n k1, .bool true, .agg #[.slice a4 m4 k4]]) ?_ rfl ⟨_, _, _, rfl, hd, by
          rw [HN2.out]
          refine ⟨rfl, ?_, HR2.out _ hd, fun k hk => HOB.out _ _ k hk⟩
          show World.ownsRow _ q _ 1 _ ((H.drop 2).take n).length _
          rw [HLN.out]
          exact own_dn (own_keep (w' := (w3.setCell ⟨q + 1, 0, none⟩ (.slice a4 m4 k4)).drew) H3.out.1 (fun g hg => hx.2.2 g (by have := (H3.out.1.lt g hg).1; omega))) (by omega)⟩
        exact results_ttc (P := Tryd.prog) (fn := Tryd.f18) (a := 2) (b := 3) (p := 4) (ty := 41) rfl _ _ (q + 1) 41 #[.slice a4 m4 k4] (0, 0) _ rfl hx.2.1 Tryd.underlying41 rfl (ipK _)
end Go.Proofs.YtdakhiafagambaaDoor
