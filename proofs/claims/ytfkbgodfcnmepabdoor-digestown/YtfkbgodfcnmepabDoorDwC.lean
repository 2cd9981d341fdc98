import Derived.Test.YtfkbgodfcnmepabDoorDwB
import Derived.Lib.SlBytesConst
import Derived.ArgAppend
namespace Go.Proofs.YtfkbgodfcnmepabDoor
set_option linter.unusedSimpArgs false
set_option linter.unusedVariables false
open Go.ChangeShapes Go.WideShapes Go.ChangeAt Go.RowKit Go.Pin Go.Str Go.Dig
theorem src_nil (B : Nat) (w : World) (bx : List (Nat × Obj)) : Src B w bx (.slice none 0 0) [] := ⟨none, 0, rfl, Nat.le_refl _, .inl rfl⟩
theorem code_nil (w : World) : Calls Tryd.prog 6 #[.nilIface] w fun e w' => e = .returned (.int .i64 0) ∧ w' = w := by
  go_enter Tryd.func6, Tryd.ntmps6
  go_wp2
  go_ret
  exact ⟨rfl, rfl⟩
/-- New of the size 32, without a key -/
theorem dnew_g {q : Nat} {W w' : World} {bx : List (Nat × Obj)} (h : Ev q W (.pointer none) [] bx w') (hB : Beg W) (h2 : 2 ≤ q) : Calls Tryd.prog 5 #[.pointer none, .int .i64 32, .slice none 0 0] w' fun e w2 => ∃ g b, e = .returned (.tuple #[.pointer (some ⟨g, 0, none⟩), .nilIface]) ∧ (∀ p ∈ bx, p.1 ≠ g) ∧ HSb [] b ∧ Ev q W (.pointer none) [] ((g, hst (.pointer none) 32 (h0 32 0) [] b) :: bx) w2 := by
  refine (dnew_any h (fun hr => absurd rfl hr) 32 (by decide) hB h2 _ [] (src_nil _ _ _) (by simp) (fun x hx => nomatch hx)).mono ?_
  rintro e w2 ⟨g, rfl, o, hne, hSt, he⟩
  obtain ⟨b, k1, rfl⟩ := hSt.blk
  exact ⟨g, b, rfl, hne, k1, he.nilOf []⟩
set_option maxRecDepth 100000 in
set_option maxHeartbeats 8000000 in
theorem own_bad (z : Int) (n : Nat) (hz : z < 1 ∨ 32 < z ∨ 32 < n) (hnb : n ≤ 131072) (m : Nat) (hm : m ≤ 131072) (ak : Option Addr) (ck : Nat) (ad : Option Addr) (cd : Nat) (W : World) (q : Nat) (hq : W.heap.size = q) (hB : Beg W) (hE : ∃ a, W.cell? ⟨0, 0, none⟩ = some (.iface 89 (.pointer (some a)))) :
    Calls Tryd.prog 3 #[.int .i64 z, .slice ak n ck, .slice ad m cd] W fun e w' => e = .returned (.bool true) ∧ Below q W w' := by
  have e0 := ev_nil' W
  rw [hq] at e0
  have HBE : Hid (Beg W ∧ 2 ≤ q ∧ ∃ a, W.cell? ⟨0, 0, none⟩ = some (.iface 89 (.pointer (some a)))) := ⟨hB, by rw [← hq]; exact hB.2, hE⟩
  obtain ⟨ea, hea⟩ := hE
  have CD1 : Hid _ := dnew_bad e0 (fun hr => absurd rfl hr) z (.iface 89 (.pointer (some ea))) hea (by have := HBE.out.2.1; omega) ak n ck hz
  have b0 : ¬ (131072 : Int) < (n : Int) := by omega
  have b1 : ¬ (131072 : Int) < (m : Int) := by omega
  clear e0 hq hB hea hz hnb hm
  go_enter Tryd.func3, Tryd.ntmps3
  go_upto_region 4 with (first | (go_at_call 5; refine Calls.mono CD1.out ?_; rintro e w1 ⟨rfl, h1⟩; have CD2 : Hid _ := dnew_g (h1.nilOf []) HBE.out.1 HBE.out.2.1; clear h1 CD1))
  clear b0 b1
  go_upto_region 5 with (first | (go_at_call 5; refine Calls.mono CD2.out ?_; rintro e w2 ⟨gg, bg, rfl, _, _, h2⟩; have CC : Hid _ := code_nil w2; have CK : Hid (Calls Tryd.prog 7 #[] w2 fun e w' => e = .returned (.bool true) ∧ Below q W w') := known_at h2.old HBE.out.1 HBE.out.2.1 HBE.out.2.2 h2.le; clear h2 CD2))
  go_wp2_with (first | (go_at_call 6; refine Calls.mono CC.out ?_; rintro e w3 ⟨rfl, hV⟩; obtain rfl := hV) | (go_at_call 7; refine Calls.mono CK.out ?_; rintro e w9 ⟨rfl, h9⟩; have H9 : Hid _ := h9; clear h9 CK))
  go_ret
  exact ⟨rfl, H9.out⟩
theorem lst_zero (g : Nat) : Lst 5 1 (.slice (some ⟨g, 0, none⟩) 0 0) 0 (([] : List Int).map (Value.int .u8)) [(g, .cells #[] 5)] := ⟨rfl, .inr ⟨g, 0, #[], rfl, rfl, Nat.le_refl _, by decide, rfl, rfl⟩⟩
/-- a copy of a row, a list of its own -/
theorem OW.copy {q : Nat} {W : World} {gh gg s : Nat} {key D E : List Int} {bs : List (Nat × Obj)} {w' : World} (h : OW q W gh gg s key D E bs w') {g n : Nat} {R : List Int} (hm : (g, Obj.cells (VI .u8 R) 5) ∈ bs) (hn : R.length = n) (hl : n ≤ 1000) (ty : TypeId) :
    ∃ v' w2, (Builtin.append_ #[22, 22] ty #[.slice (some ⟨w'.heap.size, 0, none⟩) 0 0, .slice (some ⟨g, 0, none⟩) n n]).run Tryd.prog (w'.alloc (.cells #[] 5)) = .ok v' w2 ∧ ∃ lb, Lst 5 1 v' n (R.map (Value.int .u8)) lb ∧ OW q W gh gg s key D E (bs ++ lb) w2 := by
  obtain ⟨b1, b2, h1, h2, h3⟩ := h
  have hnew := h3.1.new (.cells #[] 5)
  have hsr := src_box (B := q) (w := W) (bx := (gh, hst (.pointer none) s (h0 s key.length) (fil key ++ D) b1) :: (gg, hst (.pointer none) 32 (h0 32 0) E b2) :: bs) (memr2 hm) 0 n n (by omega) (Nat.le_refl _)
  rw [List.drop_zero, List.take_of_length_le (by omega)] at hsr
  obtain ⟨v', w2, hr, lb, k1, k2, k3⟩ := Ev.appB (A := []) (lb := [(w'.heap.size, .cells #[] 5)]) hnew (lst_zero _) (fun p hp r hr => by rw [List.mem_singleton.1 hp]; have := heap_lt (h3.1.at' r hr); show r.1 ≠ w'.heap.size; omega) ty hsr (by omega)
  refine ⟨v', w2, hr, lb, by rw [hn, Nat.zero_add] at k1; exact k1, b1, b2, h1, h2, ?_, ?_⟩
  · refine k2.sub (fun p hp => ?_)
    simp only [List.mem_cons, List.mem_append] at hp ⊢
    rcases hp with hp | hp | hp | hp
    · exact .inr (.inl hp)
    · exact .inr (.inr (.inl hp))
    · exact .inr (.inr (.inr hp))
    · exact .inl hp
  · rw [← List.cons_append, ← List.cons_append, List.map_append]
    have hnd : (lb.map Prod.fst).Nodup := Lst.nd k1
    refine List.nodup_append.2 ⟨h3.2, hnd, fun a ha b hb e => ?_⟩
    obtain ⟨r, hr', rfl⟩ := List.mem_map.1 ha
    obtain ⟨t, ht, rfl⟩ := List.mem_map.1 hb
    exact k3 t ht r hr' e
theorem OW.cell {q : Nat} {W : World} {gh gg s p11 : Nat} {key D E : List Int} {K : List (Nat × List Int)} {ex : List (Nat × Obj)} {w' : World} (h : OW q W gh gg s key D E ((p11, arr8 K) :: ex) w') {i : Nat} {p : Nat × List Int} (hi : K[i]? = some p) : w'.cell? ⟨p11, i, none⟩ = some (sl p) := by
  have hr := h.row mem0
  unfold arr8 at hr
  have hil : i < K.length := (List.getElem?_eq_some_iff.1 hi).1
  rw [cell_of_row w' _ _ _ _ _ hr, List.getElem?_toArray, List.getElem?_append_left (by rw [List.length_map]; exact hil), List.getElem?_map, hi]
  rfl
theorem OW.rb {q : Nat} {W : World} {gh gg s : Nat} {key D E : List Int} {bs : List (Nat × Obj)} {w' : World} (h : OW q W gh gg s key D E bs w') {v : Value} {R : List Int} (hS : Src q W bs v R) : RdB w' v R := by
  obtain ⟨_, _, _, _, h⟩ := h
  exact h.1.rb (hS.sub (fun p hp => memr2 hp))
theorem arr8_same {K K2 : List (Nat × List Int)} (h : K2.map sl = K.map sl) : arr8 K2 = arr8 K := by
  have hl := congrArg List.length h
  rw [List.length_map, List.length_map] at hl
  unfold arr8
  rw [h, hl]
theorem set_split {α : Type} {K : List α} {i : Nat} {p : α} (hi : K[i]? = some p) (y : α) : K = K.take i ++ p :: K.drop (i + 1) ∧ K.set i y = K.take i ++ y :: K.drop (i + 1) := by
  obtain ⟨h, rfl⟩ := List.getElem?_eq_some_iff.1 hi
  refine ⟨?_, ?_⟩
  · rw [← List.drop_eq_getElem_cons h, List.take_append_drop]
  · rw [List.set_eq_take_append_cons_drop, if_pos h]
/-- a byte of a row is written -/
theorem OW.mark {q : Nat} {W : World} {gh gg s p11 : Nat} {key D E : List Int} {K : List (Nat × List Int)} {ex : List (Nat × Obj)} {w' : World} (h : OW q W gh gg s key D E ((p11, arr8 K) :: (K.map bxB ++ ex)) w') {i k : Nat} {p : Nat × List Int} (hi : K[i]? = some p) (hk : k < p.2.length) (x : Int) :
    w'.cell? ⟨p.1, k, none⟩ = some (.int .u8 (p.2.getD k 0)) ∧ w'.frozen? ⟨p.1, k, none⟩ = false ∧ OW q W gh gg s key D E ((p11, arr8 (K.set i (p.1, p.2.set k x))) :: ((K.set i (p.1, p.2.set k x)).map bxB ++ ex)) (w'.setCell ⟨p.1, k, none⟩ (.int .u8 x)) := by
  have hr := h.row (memr1 (List.mem_append_left _ (List.mem_map.2 ⟨p, List.mem_of_getElem? hi, rfl⟩ : bxB p ∈ K.map bxB)))
  obtain ⟨e1, e2⟩ := set_split hi (p.1, p.2.set k x)
  refine ⟨by rw [cell_of_row w' _ _ _ _ _ hr, VI_at _ _ _ hk], frozen_of_row w' _ _ _ _ hr, ?_⟩
  have ea : arr8 (K.set i (p.1, p.2.set k x)) = arr8 K := arr8_same (by
    rw [e2]
    conv => rhs; rw [e1]
    simp [sl])
  rw [ea, e2]
  have hK : K.map bxB = (K.take i).map bxB ++ bxB p :: (K.drop (i + 1)).map bxB := by
    have := congrArg (List.map bxB) e1
    rw [List.map_append, List.map_cons] at this
    exact this
  rw [hK] at h
  have hh : (p11, arr8 K) :: (((K.take i).map bxB ++ bxB p :: (K.drop (i + 1)).map bxB) ++ ex) = ((p11, arr8 K) :: (K.take i).map bxB) ++ bxB p :: ((K.drop (i + 1)).map bxB ++ ex) := by simp
  rw [hh] at h
  have h2 := OW.set (w2 := w'.setCell ⟨p.1, k, none⟩ (.int .u8 x)) (y := .cells (VI .u8 (p.2.set k x)) 5) h ((Grow.refl (fun k => k = p.1) w').setCell (p := ⟨p.1, k, none⟩) (.inl rfl) _) (by
    rw [heap_setCell_same w' _ _ _ _ _ hr]
    simp [VI, List.map_set])
  have hg : (p11, arr8 K) :: ((K.take i ++ (p.1, p.2.set k x) :: K.drop (i + 1)).map bxB ++ ex) = ((p11, arr8 K) :: (K.take i).map bxB) ++ (p.1, .cells (VI .u8 (p.2.set k x)) 5) :: ((K.drop (i + 1)).map bxB ++ ex) := by simp
  rw [hg]
  exact h2
/-- a full row is added to: a list of its own comes -/
theorem OW.grow0 {q : Nat} {W : World} {gh gg s : Nat} {key D E : List Int} {bs : List (Nat × Obj)} {w' : World} (h : OW q W gh gg s key D E bs w') {g n : Nat} {R : List Int} (hm : (g, Obj.cells (VI .u8 R) 5) ∈ bs) (hn : R.length = n) (hl : n ≤ 1000) (y : Int) (ty : TypeId) :
    ∃ v' w2, (Builtin.append_ #[22, 22] ty #[.slice (some ⟨g, 0, none⟩) n n, .slice (some ⟨w'.heap.size, 0, none⟩) 1 1]).run Tryd.prog (w'.alloc (.cells #[.int .u8 y] 5)) = .ok v' w2 ∧ ∃ lb, Lst 5 1 v' (n + 1) ((R ++ [y]).map (Value.int .u8)) lb ∧ OW q W gh gg s key D E (bs ++ lb) w2 := by
  have h0 := h.below (w2 := w'.alloc (.cells #[.int .u8 y] 5)) ((Below.refl _ _).alloc (Nat.le_refl _) _)
  have hr := h0.row hm
  obtain ⟨i0, hi, hz⟩ := Option.map_eq_some_iff.1 parts_u8
  simp only [Prod.mk.injEq] at hz
  obtain ⟨hz0, hz1, hz2⟩ := hz
  obtain ⟨v', w2, hrun, hown, hgb⟩ := run_append_arg_grows (P := Tryd.prog) (w'.alloc (.cells #[.int .u8 y] 5)) 22 ty 5 i0 (.int .u8 0) 1 1 Tryd.underlying22 hi hz0 hz1 hz2 rfl (by decide) ⟨g, 0, none⟩ n n (R.map (Value.int .u8)) (by rw [List.length_map, hn, Nat.mul_one]) (fun j u hj => by rw [add_mid]; exact row_range hr j u hj) ⟨w'.heap.size, 0, none⟩ 1 1 [.int .u8 y] rfl (fun j u hj => by
    match j, hj with
    | 0, hj =>
      simp only [List.getElem?_cons_zero, Option.some.injEq] at hj
      rw [add_mid, cell_of_row _ _ _ _ _ _ (heap_alloc_new w' _), ← hj]
      rfl) (by omega) (by unfold maxLen; omega) (by omega)
  have hbel : Below (w'.alloc (.cells #[.int .u8 y] 5)).heap.size (w'.alloc (.cells #[.int .u8 y] 5)) w2 := ⟨hgb.os, hgb.tape, hgb.output, hgb.size, fun k hk => hgb.block k hk (fun e => by cases e)⟩
  obtain ⟨lb, k1, k2⟩ := lst_of hown
  refine ⟨v', w2, hrun, lb, by rw [List.map_append]; exact k1, ?_⟩
  obtain ⟨b1, b2, j1, j2, j3⟩ := h0.below hbel
  obtain ⟨_, _, _, _, j4⟩ := h0
  have hlt : ∀ p ∈ bs, p.1 < (w'.alloc (.cells #[.int .u8 y] 5)).heap.size := fun p hp => heap_lt (j4.1.at' p (memr2 hp))
  have hlg := heap_lt (j4.1.at' _ mem0)
  have hlg2 := heap_lt (j4.1.at' _ mem1)
  refine ⟨b1, b2, j1, j2, ⟨j3.1.old, j3.1.le, fun p hp => ?_, fun p hp => ?_, .inl rfl⟩, ?_⟩
  · simp only [List.mem_cons, List.mem_append] at hp
    rcases hp with hp | hp | hp | hp
    · rw [hp]; exact j3.1.ge _ mem0
    · rw [hp]; exact j3.1.ge _ mem1
    · exact j3.1.ge p (memr2 hp)
    · have := (k2 p hp).1; have := j4.1.le; omega
  · simp only [List.mem_cons, List.mem_append] at hp
    rcases hp with hp | hp | hp | hp
    · rw [hp]; exact j3.1.at' _ mem0
    · rw [hp]; exact j3.1.at' _ mem1
    · exact j3.1.at' p (memr2 hp)
    · exact (k2 p hp).2.1
  · rw [← List.cons_append, ← List.cons_append, List.map_append]
    refine List.nodup_append.2 ⟨j3.2, Lst.nd k1, fun a ha b hb e => ?_⟩
    obtain ⟨r, hr', rfl⟩ := List.mem_map.1 ha
    obtain ⟨t, ht, rfl⟩ := List.mem_map.1 hb
    have := (k2 t ht).1
    simp only [List.mem_cons] at hr'
    rcases hr' with rfl | rfl | hr'
    · simp only at e; omega
    · simp only at e; omega
    · have := hlt r hr'; omega
/-- a list of one's own is added to -/
theorem OW.grow1 {q : Nat} {W : World} {gh gg s : Nat} {key D E : List Int} {bs lb : List (Nat × Obj)} {w' : World} (h : OW q W gh gg s key D E (bs ++ lb) w') {v : Value} {n : Nat} {A : List Int} (hL : Lst 5 1 v n (A.map (Value.int .u8)) lb) (hn : n ≤ 1000) (y : Int) (ty : TypeId) :
    ∃ v' w2, (Builtin.append_ #[22, 22] ty #[v, .slice (some ⟨w'.heap.size, 0, none⟩) 1 1]).run Tryd.prog (w'.alloc (.cells #[.int .u8 y] 5)) = .ok v' w2 ∧ ∃ lb', Lst 5 1 v' (n + 1) ((A ++ [y]).map (Value.int .u8)) lb' ∧ OW q W gh gg s key D E (bs ++ lb') w2 := by
  obtain ⟨b1, b2, j1, j2, j3⟩ := h.below (w2 := w'.alloc (.cells #[.int .u8 y] 5)) ((Below.refl _ _).alloc (Nat.le_refl _) _)
  rw [← List.cons_append, ← List.cons_append, ← List.append_nil lb] at j3
  obtain ⟨k1, k2⟩ := j3.list
  obtain ⟨v', w2, hr, lb', l1, l2, l3⟩ := k1.app1 hL k2 ty (heap_alloc_new w' _) (by omega)
  refine ⟨v', w2, hr, lb', l1, b1, b2, j1, j2, ?_⟩
  rw [← List.cons_append, ← List.cons_append, ← List.append_nil lb']
  exact j3.listBack l1.nd l2 l3
def arrV (vs : List Value) : Obj := .cells vs.toArray 31
theorem OW.storeV {q : Nat} {W : World} {gh gg s p20 : Nat} {key D E : List Int} {A C : List (Nat × Obj)} {vs : List Value} {w' : World} (h : OW q W gh gg s key D E (A ++ (p20, arrV vs) :: C) w') {i : Nat} (hi : i < vs.length) (v : Value) : (∃ u, vs[i]? = some u ∧ w'.cell? ⟨p20, i, none⟩ = some u) ∧ w'.frozen? ⟨p20, i, none⟩ = false ∧ OW q W gh gg s key D E (A ++ (p20, arrV (vs.set i v)) :: C) (w'.setCell ⟨p20, i, none⟩ v) := by
  have hr := h.row (List.mem_append_right _ mem0)
  unfold arrV at hr
  refine ⟨⟨_, List.getElem?_eq_getElem hi, by rw [cell_of_row w' _ _ _ _ _ hr, List.getElem?_toArray, List.getElem?_eq_getElem hi]⟩, frozen_of_row w' _ _ _ _ hr, ?_⟩
  refine h.set ((Grow.refl (fun k => k = p20) w').setCell (p := ⟨p20, i, none⟩) (.inl rfl) _) ?_
  rw [heap_setCell_same w' _ _ _ _ _ hr]
  unfold arrV
  simp
def cnt (s j : Nat) : List Int := List.replicate (if j < 4 then s else 32) ((10 + j : Nat) : Int) ++ List.replicate 70 ((100 + j : Nat) : Int)
def lnr (s j : Nat) : Nat := if j < 4 then s else 32
/-- the first i rows bear their marks -/
def Mks (s : Nat) (K : List (Nat × List Int)) (i : Nat) : Prop := K.length = 8 ∧ ∀ j p, K[j]? = some p → p.2.length = lnr s j ∧ (j < i → p.2 = List.replicate (lnr s j) ((10 + j : Nat) : Int))
theorem take_set_mark {L : List Int} {k : Nat} {x : Int} (hk : k < L.length) (h : L.take k = List.replicate k x) : (L.set k x).take (k + 1) = List.replicate (k + 1) x := by
  rw [List.take_add_one, List.take_set_of_le (Nat.le_refl _), h, List.getElem?_set_self hk, List.replicate_succ']
  rfl
theorem Mks.set {s : Nat} {K : List (Nat × List Int)} {i k : Nat} {p : Nat × List Int} {x : Int} (h : Mks s K i) (hi : K[i]? = some p) : Mks s (K.set i (p.1, p.2.set k x)) i := by
  refine ⟨by rw [List.length_set]; exact h.1, fun j r hr => ?_⟩
  by_cases e : i = j
  · subst e
    have hil : i < K.length := (List.getElem?_eq_some_iff.1 hi).1
    rw [List.getElem?_set_self hil] at hr
    injection hr with hr
    subst hr
    exact ⟨by rw [List.length_set]; exact (h.2 i p hi).1, fun hlt => absurd hlt (Nat.lt_irrefl _)⟩
  · rw [List.getElem?_set_ne e] at hr
    exact h.2 j r hr
/-- the first i long lists are there -/
def LG (s i : Nat) (vs : List Value) (LB : List (Nat × Obj)) : Prop := vs.length = 8 ∧ ∀ j, j < i → ∃ lb v, vs[j]? = some v ∧ Lst 5 1 v (lnr s j + 70) ((cnt s j).map (Value.int .u8)) lb ∧ ∀ p ∈ lb, p ∈ LB
theorem LG.set {s i : Nat} {vs : List Value} {LB : List (Nat × Obj)} (h : LG s i vs LB) (v : Value) : LG s i (vs.set i v) LB := by
  refine ⟨by rw [List.length_set]; exact h.1, fun j hj => ?_⟩
  rw [List.getElem?_set_ne (by omega)]
  exact h.2 j hj
theorem bxB_mem {K : List (Nat × List Int)} {i : Nat} {p : Nat × List Int} (hi : K[i]? = some p) : bxB p ∈ K.map bxB := List.mem_map.2 ⟨p, List.mem_of_getElem? hi, rfl⟩
/-- the j-th row's bytes -/
def rwo (s : Nat) (key D : List Int) (j : Nat) : List Int := if j < 4 then dig s key D else dig 32 [] oth
def Rws (s : Nat) (key D : List Int) (K : List (Nat × List Int)) : Prop := ∀ j p, K[j]? = some p → p.2 = rwo s key D j
theorem Rws.snoc {s : Nat} {key D : List Int} {K : List (Nat × List Int)} (h : Rws s key D K) {p : Nat × List Int} (hp : p.2 = rwo s key D K.length) : Rws s key D (K ++ [p]) := fun j r hr => by
  rcases Nat.lt_trichotomy j K.length with hj | hj | hj
  · rw [List.getElem?_append_left hj] at hr; exact h j r hr
  · subst hj
    rw [List.getElem?_append_right (Nat.le_refl _), Nat.sub_self] at hr
    simp only [List.getElem?_cons_zero, Option.some.injEq] at hr
    subst hr; exact hp
  · rw [List.getElem?_eq_none (by simp; omega)] at hr; cases hr
/-- the marks of the i-th row -/
theorem marks (i : Nat) (hi : i < 8) (x y : Int) (hx : ((10 + i : Nat) : Int) = x) (hy : ((100 + i : Nat) : Int) = y) : wrap64 (10 + (i : Int)) = x ∧ IntKind.u8.wrap x = x ∧ wrap64 (100 + (i : Int)) = y ∧ IntKind.u8.wrap y = y := by
  have hx1 : (10 : Int) + (i : Int) = x := by omega
  have hy1 : (100 : Int) + (i : Int) = y := by omega
  rw [hx1, hy1]
  exact ⟨IntWalk.wrap64_in _ ⟨by omega, by omega⟩, IntWalk.u8_in _ ⟨by omega, by omega⟩, IntWalk.wrap64_in _ ⟨by omega, by omega⟩, IntWalk.u8_in _ ⟨by omega, by omega⟩⟩
theorem cnt_lo {s i ln k : Nat} {x : Int} (h : lnr s i = ln) (hk : k < ln) (hx : ((10 + i : Nat) : Int) = x) : (cnt s i).getD k 0 = x := by
  have e : cnt s i = List.replicate (lnr s i) ((10 + i : Nat) : Int) ++ List.replicate 70 ((100 + i : Nat) : Int) := rfl
  rw [e, h, List.getD_eq_getElem?_getD, List.getElem?_append_left (by rw [List.length_replicate]; exact hk), List.getElem?_replicate, if_pos hk]
  exact hx
theorem cnt_hi {s i ln k : Nat} {y : Int} (h : lnr s i = ln) (hk : ¬ k < ln) (hk2 : k < ln + 70) (hy : ((100 + i : Nat) : Int) = y) : (cnt s i).getD k 0 = y := by
  have e : cnt s i = List.replicate (lnr s i) ((10 + i : Nat) : Int) ++ List.replicate 70 ((100 + i : Nat) : Int) := rfl
  rw [e, h, List.getD_eq_getElem?_getD, List.getElem?_append_right (by rw [List.length_replicate]; omega), List.length_replicate, List.getElem?_replicate, if_pos (by omega)]
  exact hy
end Go.Proofs.YtfkbgodfcnmepabDoor
