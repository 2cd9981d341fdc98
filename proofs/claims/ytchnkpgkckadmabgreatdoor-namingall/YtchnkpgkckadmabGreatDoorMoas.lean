import Derived.Maps.Own
import Derived.Maps.OwnOps
import Derived.Shelf.SlIter.Nil
import Derived.Shelf.SortM.Plain
import Derived.Shelf.SortM.SortNone
import Derived.Ground.GgzProg
import Derived.Ground.SlgmProg
import Derived.Test.YtchnkpgkckadmabGreatDoorProg
import Derived.Test.YtchnkpgkckadmabGreatDoorMoar
namespace Go.Proofs.YtchnkpgkckadmabGreatDoor
set_option linter.unusedSimpArgs false
set_option linter.unusedVariables false
set_option maxRecDepth 100000
open Go.ChangeShapes Go.WideShapes Go.ChangeAt Go.RowKit Go.Pin Go.Pat Go.Deep
open Go.ChangeMaps (setBlock)
/-- the entries of a table of texts -/
def ents : List (ByteArray × ByteArray) → Nat → List MapEntry
  | [], _ => []
  | e :: r, c => ⟨.string e.1, .agg #[.string e.2], c⟩ :: ents r (c + 1)
theorem ents_snoc (e : ByteArray × ByteArray) : ∀ (L : List (ByteArray × ByteArray)) (c : Nat), ents (L ++ [e]) c = ents L c ++ [⟨.string e.1, .agg #[.string e.2], c + L.length⟩]
  | [], c => by simp [ents]
  | x :: r, c => by
    simp only [List.cons_append, ents, ents_snoc e r (c + 1), List.length_cons]
    rw [show c + 1 + r.length = c + (r.length + 1) by omega]
theorem same_now (a b : ByteArray) : Instr.sameNow .string (.string a) (.string b) = some (decide (b = a)) := by
  simp only [Instr.sameNow]
  congr 1
  by_cases h : b = a
  · rw [decide_eq_true h]
    exact (MapKept.bytes_beq a b).2 h.symm
  · rw [decide_eq_false h]
    exact Bool.eq_false_iff.2 fun e => h ((MapKept.bytes_beq a b).1 e).symm
theorem find_ents (nm : ByteArray) : ∀ (L : List (ByteArray × ByteArray)) (c i : Nat),
    (L.find? (fun e => decide (e.1 = nm)) = none → Instr.findNow .string (.string nm) (ents L c) i = some none) ∧
    ∀ e, L.find? (fun e => decide (e.1 = nm)) = some e → ∃ j, Instr.findNow .string (.string nm) (ents L c) i = some (some (j, .agg #[.string e.2]))
  | [], c, i => ⟨fun _ => rfl, fun e h => (by cases h)⟩
  | x :: r, c, i => by
    have ih := find_ents nm r (c + 1) (i + 1)
    rw [List.find?_cons]
    simp only [ents, Instr.findNow, same_now]
    by_cases h : x.1 = nm
    · rw [decide_eq_true h]
      simp only
      exact ⟨fun h => (by cases h), fun e he => (by cases he; exact ⟨i, rfl⟩)⟩
    · rw [decide_eq_false h]
      simp only
      exact ih
/-- block g is a map of these texts -/
def OM (g : Nat) (L : List (ByteArray × ByteArray)) (w : World) : Prop := w.heap[g]? = some (.map (ents L 0).toArray L.length)
theorem zero_entry (w : World) : (zeroValue 47).run Tryz.prog w = .ok (.agg #[.string ⟨#[]⟩]) w := by kernel_rfl
theorem run_look {w : World} {g : Nat} {L : List (ByteArray × ByteArray)} (h : OM g L w) (nm : ByteArray) (c : Bool) :
    (Instr.lookup 40 (.map (some g)) (.string nm) c).run Tryz.prog w = .ok (if c then .tuple #[.agg #[.string (((L.find? (fun e => decide (e.1 = nm))).map (·.2)).getD ⟨#[]⟩)], .bool (L.find? (fun e => decide (e.1 = nm))).isSome] else .agg #[.string (((L.find? (fun e => decide (e.1 = nm))).map (·.2)).getD ⟨#[]⟩)]) w := by
  have hf := find_ents nm L 0 0
  unfold OM at h
  have hk : MapKept.IsKey .string (.string nm) := by simp [MapKept.IsKey]
  cases hn : L.find? (fun e => decide (e.1 = nm)) with
  | none =>
    have := hf.1 hn
    simp [Instr.lookup, run_underlying Tryz.underlying40, MapKept.run_getObj_map h, MapKept.run_checkKey Tryz.underlying9 hk, MapKept.run_findKey Tryz.underlying9 this, zero_entry, Result.andThen]
  | some e =>
    obtain ⟨j, this⟩ := hf.2 e hn
    simp [Instr.lookup, run_underlying Tryz.underlying40, MapKept.run_getObj_map h, MapKept.run_checkKey Tryz.underlying9 hk, MapKept.run_findKey Tryz.underlying9 this, zero_entry, Result.andThen]
theorem run_insert {w : World} {g : Nat} {L : List (ByteArray × ByteArray)} (h : OM g L w) (k t : ByteArray) (hno : L.find? (fun e => decide (e.1 = k)) = none) :
    (Instr.mapUpdate 40 (.map (some g)) (.string k) (.agg #[.string t])).run Tryz.prog w = .ok () (setBlock w g (.map (ents (L ++ [(k, t)]) 0).toArray (L ++ [(k, t)]).length)) := by
  have hf := (find_ents k L 0 0).1 hno
  unfold OM at h
  have hk : MapKept.IsKey .string (.string k) := by simp [MapKept.IsKey]
  simp [Instr.mapUpdate, run_underlying Tryz.underlying40, MapKept.run_getObj_map h, MapKept.run_checkKey Tryz.underlying9 hk, MapKept.run_findKey Tryz.underlying9 hf, MapKept.run_setObj_map _ h, Result.andThen, setBlock, ents_snoc]
theorem OM.ins {w : World} {g : Nat} {L : List (ByteArray × ByteArray)} (h : OM g L w) (M : List (ByteArray × ByteArray)) : OM g M (setBlock w g (.map (ents M 0).toArray M.length)) :=
  (MapKept.heap_set h).1
theorem OM.lt {w : World} {g : Nat} {L : List (ByteArray × ByteArray)} (h : OM g L w) : g < w.heap.size := (Array.getElem?_eq_some_iff.1 h).1
theorem OM.below {w w' : World} {g : Nat} {L : List (ByteArray × ByteArray)} (h : OM g L w) (hb : Below w.heap.size w w') : OM g L w' := (hb.block g h.lt).trans h
theorem below_block {w wr : World} {g : Nat} {L : List (ByteArray × ByteArray)} {q : Nat} (hb : Below q w wr) (h : OM g L wr) (hq : q ≤ g) (o : Obj) : Below q w (setBlock wr g o) :=
  ⟨hb.os, hb.tape, hb.output, by have := hb.size; simpa [setBlock] using this, fun k hk => ((MapKept.heap_set h).2 k (by omega)).trans (hb.block k hk)⟩
/-- operations that lay a table of texts, one text after another -/
inductive Fits : Nat → List Oper → List (ByteArray × ByteArray) → List Oper → Prop
  | nil (d : Nat) (r : List Oper) : Fits d r [] r
  | cons {d : Nat} {o1 o2 : Oper} {os : List Oper} {k t : ByteArray} {L : List (ByteArray × ByteArray)} {r : List Oper} (h1 : o1.dst = some d ∧ o1.op = .build 47 #[(0, .const (.string t))] ∧ o1.guard = none) (h2 : o2.dst = none ∧ o2.op = .insert 40 (.tmp 1) (.const (.string k)) (.tmp d) ∧ o2.guard = none) (h : Fits (d + 1) os L r) : Fits d (o1 :: o2 :: os) ((k, t) :: L) r
theorem build_entry (t : ByteArray) (w : World) : (Instr.build 47 #[(0, .string t)]).run Tryz.prog w = .ok (.agg #[.string t]) w := by kernel_rfl
theorem fits_wp {all : Array Oper} {Q : Exit → Act → World → Prop} {g : Nat} {w0 : World} {r : List Oper} :
    ∀ (L M : List (ByteArray × ByteArray)) (d : Nat) (ops : List Oper) (a : Act) (w : World), Fits d ops L r → OM g M w → Below w0.heap.size w0 w → w0.heap.size ≤ g → ((M ++ L).Pairwise fun a b => ¬ a.1 = b.1) → 2 ≤ d → d + L.length ≤ a.tmps.size →
      a.tmps.getD 1 undef = .map (some g) →
      (∀ (a' : Act) (w' : World), a'.tmps.size = a.tmps.size → a'.defers = a.defers → a'.tmps.getD 1 undef = .map (some g) → OM g (M ++ L) w' → Below w0.heap.size w0 w' → wpList Tryz.prog all Q r a' w') → wpList Tryz.prog all Q ops a w
  | [], M, d, ops, a, w, hf, hm, hb, hg, hp, hd, hs, h1, hk => by
    cases hf
    exact hk a w rfl rfl h1 (by rw [List.append_nil]; exact hm) hb
  | e :: L, M, d, ops, a, w, hf, hm, hb, hg, hp, hd, hs, h1, hk => by
    cases hf with
    | @cons _ o1 o2 os k t _ _ q1 q2 hf =>
      obtain ⟨a1, a2, a3⟩ := q1
      obtain ⟨b1, b2, b3⟩ := q2
      have hno : M.find? (fun e => decide (e.1 = k)) = none := by
        rw [List.find?_eq_none]
        intro x hx
        have := (List.pairwise_append.1 hp).2.2 x hx (k, t) (List.mem_cons_self)
        simpa using this
      have hs' : d + (L.length + 1) ≤ a.tmps.size := hs
      refine wpList_plain a3 fun K hK => ?_
      unfold Oper.wp
      simp [execOp, a2, Act.eval, build_entry, Result.andThen]
      obtain ⟨a', ha'⟩ : ∃ a', a.put o1.dst (.agg #[.string t]) = a' := ⟨_, rfl⟩
      have p1 : a'.tmps.getD 1 undef = .map (some g) := by
        rw [← ha', a1]
        show (a.tmps.setIfInBounds d _).getD 1 undef = _
        rw [← h1]
        simp [Array.getD_eq_getD_getElem?, Array.getElem?_setIfInBounds, show ¬ d = 1 by omega]
      have p2 : a'.tmps.getD d undef = .agg #[.string t] := by
        rw [← ha', a1]
        show (a.tmps.setIfInBounds d _).getD d undef = _
        simp [Array.getD_eq_getD_getElem?, Array.getElem?_setIfInBounds, show d < a.tmps.size by omega]
      have p3 : a'.tmps.size = a.tmps.size ∧ a'.defers = a.defers := by
        rw [← ha', a1]
        exact ⟨by show (a.tmps.setIfInBounds d _).size = _; simp, rfl⟩
      have e1 : a'.eval (.tmp 1) = .map (some g) := p1
      have e2 : a'.eval (.tmp d) = .agg #[.string t] := p2
      have e3 : a'.eval (.const (.string k)) = .string k := rfl
      show K (a.put o1.dst (.agg #[.string t])) w
      rw [ha']
      refine hK _ _ (wpList_plain b3 fun K' hK' => ?_)
      unfold Oper.wp
      have hrun := run_insert hm k t hno
      obtain ⟨w1, hw1⟩ : ∃ w1, setBlock w g (.map (ents (M ++ [(k, t)]) 0).toArray (M ++ [(k, t)]).length) = w1 := ⟨_, rfl⟩
      rw [hw1] at hrun
      have hm1 : OM g (M ++ [(k, t)]) w1 := by rw [← hw1]; exact hm.ins _
      have hb1 : Below w0.heap.size w0 w1 := by rw [← hw1]; exact below_block hb hm hg _
      simp [execOp, b2, e1, e2, e3, hrun, Result.andThen]
      show K' (a'.put o2.dst undef) _
      rw [b1]
      refine hK' _ _ ?_
      refine fits_wp L (M ++ [(k, t)]) (d + 1) os _ _ hf hm1 hb1 hg (by simpa using hp) (by omega) ?_ p1 fun a2 w2 r1 r2 r3 r4 r5 => hk a2 w2 (r1.trans p3.1) (r2.trans p3.2) r3 (by simpa using r4) r5
      rw [show (a'.put none undef).tmps = a'.tmps from rfl, p3.1]
      omega
set_option maxHeartbeats 4000000 in
theorem table_any (w : World) : Calls Tryz.prog 10 #[] w fun e w' => e = .returned (.map (some w.heap.size)) ∧ OM w.heap.size tbl w' ∧ Below w.heap.size w w' := by
  go_enter Tryz.func10, Tryz.ntmps10
  refine wp_seq (wp_region_list ?_)
  refine wpList_plain rfl fun K hK => ?_
  show K _ w
  refine hK _ _ ?_
  show Code.wp _ _ _ _ w
  refine wp_seq (wp_region_list ?_)
  refine wpList_plain rfl fun K hK => ?_
  show K _ (w.alloc (.map #[] 0))
  refine hK _ _ ?_
  refine fits_wp (r := ?r) (g := w.heap.size) (w0 := w) tbl [] 2 _ _ _ ?fit (MapKept.heap_alloc w _).1 ((Below.refl _ _).alloc (Nat.le_refl _) _) (Nat.le_refl _) (of_decide_eq_true tbl_apart) (Nat.le_refl _) (by show 2 + 38 ≤ 41; decide) rfl ?_
  case fit =>
    repeat (refine Fits.cons ⟨rfl, rfl, rfl⟩ ⟨rfl, rfl, rfl⟩ ?_)
    exact Fits.nil _ _
  intro a' w' h1 h2 h3 h4 h5
  have h1' : a'.tmps.size = 41 := h1
  have h2' : a'.defers = [] := h2
  refine wpList_plain rfl fun K hK => ?_
  show K (a'.put (some 40) (a'.eval (.tmp 1))) w'
  refine hK _ _ ?_
  refine wpList_plain rfl fun K hK => ?_
  show K ((a'.put (some 40) (a'.eval (.tmp 1))).put (some 0) ((a'.put (some 40) (a'.eval (.tmp 1))).eval (.tmp 40))) w'
  refine hK _ _ ?_
  show Code.wp _ _ _ _ w'
  refine wp_ret ?_
  have e1 : a'.eval (.tmp 1) = .map (some w.heap.size) := h3
  rw [e1]
  have e2 : (a'.put (some 40) (.map (some w.heap.size))).eval (.tmp 40) = .map (some w.heap.size) := by
    show (a'.tmps.setIfInBounds 40 _).getD 40 undef = _
    simp [Array.getD_eq_getD_getElem?, Array.getElem?_setIfInBounds, h1']
  rw [e2]
  refine bodyPost_ret (v := .map (some w.heap.size)) ?_ h2' ⟨rfl, h4, h5⟩
  have e3 : ((a'.put (some 40) (.map (some w.heap.size))).put (some 0) (.map (some w.heap.size))).tmps.getD 0 undef = .map (some w.heap.size) := by
    show ((a'.tmps.setIfInBounds 40 _).setIfInBounds 0 _).getD 0 undef = _
    simp [Array.getD_eq_getD_getElem?, Array.getElem?_setIfInBounds, h1']
  simp [results, Tryz.results10, Array.getD_eq_getD_getElem?] at e3 ⊢
  rw [e3]
end Go.Proofs.YtchnkpgkckadmabGreatDoor
namespace Go.Proofs.YtchnkpgkckadmabGreatDoor
set_option linter.unusedSimpArgs false
set_option linter.unusedVariables false
set_option maxRecDepth 100000
open Go.ChangeShapes Go.WideShapes Go.ChangeAt Go.RowKit Go.Pin Go.Pat Go.Deep
def FnP (t : ByteArray) (W : World) (e : Ending) (w' : World) : Prop :=
  Below W.heap.size W w' ∧ ∃ v0 v1 vl, e = .returned (.tuple #[.agg #[.string ((tbI t).getD zPt).nm, v0, v1, vl], .bool (tbI t).isSome]) ∧ FtP (fun b => W.heap.size ≤ b ∧ b < w'.heap.size) w' v0 v1 vl ((tbI t).getD zPt)
/-- a box of a pattern -/
structure PO (n : Nat) (w : World) (wr : World) : Prop where
  old : Below n w wr
  sz : n < wr.heap.size
  hp : wr.heap[n]? = some (.cells zPR 30)
theorem PO.below {n : Nat} {w wr w' : World} (h : PO n w wr) (hb : Below wr.heap.size wr w') : PO n w w' :=
  ⟨h.old.trans (hb.mono (Nat.le_of_lt h.sz)), Nat.lt_of_lt_of_le h.sz hb.size, (hb.block n h.sz).trans h.hp⟩
theorem four_row {w : World} {n : Nat} {e0 e1 e2 e3 : Value} {t : TypeId} (h : w.heap[n]? = some (.cells #[e0, e1, e2, e3] t)) (a b c d : Value) :
    ((((w.setCell ⟨n, 0, none⟩ a).setCell ⟨n, 1, none⟩ b).setCell ⟨n, 2, none⟩ c).setCell ⟨n, 3, none⟩ d).heap[n]? = some (.cells #[a, b, c, d] t) := by
  have h1 := Go.heap_setCell_same w n 0 _ _ a h
  have h2 := Go.heap_setCell_same _ n 1 _ _ b h1
  have h3 := Go.heap_setCell_same _ n 2 _ _ c h2
  have h4 := Go.heap_setCell_same _ n 3 _ _ d h3
  exact h4
set_option maxHeartbeats 8000000 in
theorem find_any' {ea : Int → Addr} (t : ByteArray) (w : World) (hE : Errs ea w) :
    Calls Tryz.prog 15 #[.string t] w (FnP t w) := by
  have h0 : PO w.heap.size w (w.alloc (.cells zPR 30)) := ⟨(Below.refl _ _).alloc (Nat.le_refl _) _, by rw [size_alloc]; omega, heap_alloc_new _ _⟩
  obtain ⟨n, hn⟩ : ∃ n, w.heap.size = n := ⟨_, rfl⟩
  rw [hn] at h0
  have HN : Hid (w.heap.size = n) := hn
  have HE : Hid (∀ y, Below n w y → Errs ea y) := fun y hy => hE.below (by rw [hn]; exact hy)
  obtain ⟨W, hW⟩ : ∃ W, w.alloc (.cells zPR 30) = W := ⟨_, rfl⟩
  rw [hW] at h0
  have H0 : Hid (PO n w W) := h0
  have CT := table_any W
  obtain ⟨g, hg⟩ : ∃ g, W.heap.size = g := ⟨_, rfl⟩
  rw [hg] at CT
  clear h0 hE
  have hl : ∀ (Y : World), OM g tbl Y → (Instr.lookup 40 (.map (some g)) (.string t) true).run Tryz.prog Y = .ok (.tuple #[.agg #[.string (((tbF t).map (·.2)).getD ⟨#[]⟩)], .bool (tbF t).isSome]) Y := fun Y h => run_look h t true
  cases hf : tbF t with
  | none =>
    have HF : Hid (tbI t = none) := tbF_none hf
    simp only [hf, Option.map_none, Option.getD_none, Option.isSome_none] at hl
    have HL : Hid _ := hl
    clear hl hf
    go_enter Tryz.func15, Tryz.ntmps15
    go_upto_region 2 with (first
      | (go_at_call 10; refine CT.mono ?_; rintro e w1 ⟨rfl, hom, hb⟩; have hrl := HL.out _ hom; have H1 : Hid (PO n w w1) := H0.out.below (by rw [hg]; exact hb); clear hom hb CT HL))
    have h2 : PO n w (w1.alloc (.cells #[.string ⟨#[]⟩] 47)) := H1.out.below ((Below.refl _ _).alloc (Nat.le_refl _) _)
    obtain ⟨w2, hw2⟩ : ∃ w2, w1.alloc (.cells #[.string ⟨#[]⟩] 47) = w2 := ⟨_, rfl⟩
    rw [hw2] at h2 ⊢
    have hrow := h2.hp
    have H2 : Hid (PO n w w2) := h2
    clear h2 hrl hw2
    go_wp2_with (with_reducible refine at_list ?_; refine hold_store 30 (.tmp 2) (.tmp 16) rfl ?_)
    refine wpList_store_row rfl 30 (.tmp 2) (.tmp 16) rfl n zPR rfl rfl 30 zPR hrow (ipR _ _ _ _) rfl (by simp [zPR, Value.oneCell']) ?_
    go_wp2
    refine bodyPost_ret (v := .tuple #[.agg zPR, .bool false]) ?_ rfl ⟨by rw [HN.out]; exact below_setRow H2.out.old _ (Nat.le_refl _) _, _, _, _, by rw [HF.out]; rfl, by rw [HF.out]; exact ftp_zero _ _⟩
    exact results_row_tmp (P := Tryz.prog) (fn := Tryz.f15) (p := 2) (u := 3) (ty := 30) rfl _ _ n 30 _ (0, 0) _ _ rfl (setRow_heap _ _ _ _ 30 _ hrow) Tryz.underlying30 rfl (ipR _ _ _ _) rfl
  | some e =>
    obtain ⟨hek, hem⟩ := tbF_some hf
    obtain ⟨hpr, his, hsz⟩ := tbl_at hem
    rw [hek] at hpr his
    obtain ⟨nm, tx⟩ := e
    simp only at hpr hsz
    simp only [hf, Option.map_some, Option.getD_some, Option.isSome_some] at hl
    have HL : Hid _ := hl
    have HPR : Hid (prs tx = ((tbI t).getD zPt, 0) ∧ (tbI t).isSome = true) := ⟨hpr, his⟩
    have HCP : Hid (∀ y, Below n w y → Calls Tryz.prog 13 #[.string tx] y (PsP ea tx y)) := fun y hy => parse_any' tx y (HE.out y hy) (by omega)
    clear hl hf hek hem hpr his hsz
    go_enter Tryz.func15, Tryz.ntmps15
    go_upto_region 2 with (first
      | (go_at_call 10; refine CT.mono ?_; rintro e w1 ⟨rfl, hom, hb⟩; have hrl := HL.out _ hom; have H1 : Hid (PO n w w1) := H0.out.below (by rw [hg]; exact hb); clear hom hb CT HL))
    have h2 : PO n w (w1.alloc (.cells #[.string tx] 47)) := H1.out.below ((Below.refl _ _).alloc (Nat.le_refl _) _)
    have c2 : (w1.alloc (.cells #[.string tx] 47)).cell? ⟨w1.heap.size, 0, none⟩ = some (.string tx) := by rw [cell_of_row _ _ _ _ _ _ (heap_alloc_new _ _)]; rfl
    obtain ⟨w2, hw2⟩ : ∃ w2, w1.alloc (.cells #[.string tx] 47) = w2 := ⟨_, rfl⟩
    obtain ⟨g2, hg2⟩ : ∃ g2, w1.heap.size = g2 := ⟨_, rfl⟩
    rw [hw2] at h2 c2 ⊢
    simp only [hg2] at c2 ⊢
    have H2 : Hid (PO n w w2) := h2
    clear h2 hrl hw2 hg2
    go_upto_region 4 with (fail)
    go_upto_region 5 with (go_at_call 13; refine (HCP.out w2 H2.out.old).mono ?_; unfold PsP; rw [HPR.out.1]; rintro e w3 ⟨hb, v0, v1, vl, rfl, hft⟩; obtain ⟨p0, q0, s0, rfl⟩ := hft.1.sl3; obtain ⟨p1, q1, s1, rfl⟩ := hft.2.1.sl3; obtain ⟨p2, q2, s2, rfl⟩ := hft.2.2.sl3; simp only [EV_0]; have H3 : Hid (PO n w w3 ∧ FtP (fun b => w2.heap.size ≤ b ∧ b < w3.heap.size) w3 (.slice p0 q0 s0) (.slice p1 q1 s1) (.slice p2 q2 s2) ((tbI t).getD zPt)) := ⟨H2.out.below hb, hft⟩; clear hb hft)
    have h4 : PO n w (w3.alloc (.cells #[.string ((tbI t).getD zPt).nm, .slice p0 q0 s0, .slice p1 q1 s1, .slice p2 q2 s2] 30)) := H3.out.1.below ((Below.refl _ _).alloc (Nat.le_refl _) _)
    have hf4 : FtP (fun b => n + 1 ≤ b ∧ b < w3.heap.size + 1) (w3.alloc (.cells #[.string ((tbI t).getD zPt).nm, .slice p0 q0 s0, .slice p1 q1 s1, .slice p2 q2 s2] 30)) (.slice p0 q0 s0) (.slice p1 q1 s1) (.slice p2 q2 s2) ((tbI t).getD zPt) := (H3.out.2.keep (fun b hb => Below.heap_alloc _ _ _ hb.2)).mono (fun b hb => ⟨by have := hb.1; have := H2.out.sz; omega, by have := hb.2; omega⟩)
    rw [← size_alloc w3 (.cells #[.string ((tbI t).getD zPt).nm, .slice p0 q0 s0, .slice p1 q1 s1, .slice p2 q2 s2] 30)] at hf4
    have hr4 := heap_alloc_new w3 (.cells #[.string ((tbI t).getD zPt).nm, .slice p0 q0 s0, .slice p1 q1 s1, .slice p2 q2 s2] 30)
    obtain ⟨x, hx⟩ : ∃ x, ((tbI t).getD zPt).nm = x := ⟨_, rfl⟩
    obtain ⟨g4, hg4⟩ : ∃ g4, w3.heap.size = g4 := ⟨_, rfl⟩
    obtain ⟨w4, hw4⟩ : ∃ w4, w3.alloc (.cells #[.string ((tbI t).getD zPt).nm, .slice p0 q0 s0, .slice p1 q1 s1, .slice p2 q2 s2] 30) = w4 := ⟨_, rfl⟩
    rw [hw4] at h4 hf4 hr4 ⊢
    simp only [hg4] at hr4 ⊢
    rw [hx] at hr4
    simp only [hx]
    have H4 : Hid (PO n w w4) := h4
    have HF4 : Hid _ := hf4
    have hne : ¬ n = g4 := by have := H3.out.1.sz; omega
    have hne' : ¬ g4 = n := fun h => hne h.symm
    have k0 := cell_of_row w4 g4 0 _ _ _ hr4
    have k1 := cell_of_row w4 g4 1 _ _ _ hr4
    have k2 := cell_of_row w4 g4 2 _ _ _ hr4
    have k3 := cell_of_row w4 g4 3 _ _ _ hr4
    have n0 := cell_of_row w4 n 0 _ _ _ h4.hp
    have n1 := cell_of_row w4 n 1 _ _ _ h4.hp
    have n2 := cell_of_row w4 n 2 _ _ _ h4.hp
    have n3 := cell_of_row w4 n 3 _ _ _ h4.hp
    have f0 := frozen_of_row w4 n 0 _ _ h4.hp
    have f1 := frozen_of_row w4 n 1 _ _ h4.hp
    have f2 := frozen_of_row w4 n 2 _ _ h4.hp
    have f3 := frozen_of_row w4 n 3 _ _ h4.hp
    simp at k0 k1 k2 k3 n0 n1 n2 n3
    have HX : Hid (((tbI t).getD zPt).nm = x) := hx
    clear hw4 hg4 h4 hf4 hr4 c2 H3 hx hn hW hg
    go_region
    all_goals go_wp2
    obtain ⟨w9, hw9⟩ : ∃ w9, w9 = ((((w4.setCell ⟨n, 0, none⟩ (.string x)).setCell ⟨n, 1, none⟩ (.slice p0 q0 s0)).setCell ⟨n, 2, none⟩ (.slice p1 q1 s1)).setCell ⟨n, 3, none⟩ (.slice p2 q2 s2)).drew := ⟨_, rfl⟩
    have hh : w9.heap = ((((w4.setCell ⟨n, 0, none⟩ (.string x)).setCell ⟨n, 1, none⟩ (.slice p0 q0 s0)).setCell ⟨n, 2, none⟩ (.slice p1 q1 s1)).setCell ⟨n, 3, none⟩ (.slice p2 q2 s2)).heap := by rw [hw9]; rfl
    have hrow9 : w9.heap[n]? = some (.cells #[.string x, .slice p0 q0 s0, .slice p1 q1 s1, .slice p2 q2 s2] 30) := by
      rw [hh]
      exact four_row H4.out.hp _ _ _ _
    have hb9 : Below n w w9 := by
      rw [hw9]
      exact ((((H4.out.old.setCell (Nat.le_refl _) _).setCell (Nat.le_refl _) _).setCell (Nat.le_refl _) _).setCell (Nat.le_refl _) _).drew
    have hs9 : w9.heap.size = w4.heap.size := by rw [hh]; simp only [World.size_setCell]
    have hf9 : FtP (fun b => n ≤ b ∧ b < w9.heap.size) w9 (.slice p0 q0 s0) (.slice p1 q1 s1) (.slice p2 q2 s2) ((tbI t).getD zPt) := by
      refine (FtP.keep HF4.out (fun b hb => ?_)).mono (fun b hb => ⟨by have := hb.1; omega, by rw [hs9]; exact hb.2⟩)
      have h1 := hb.1
      rw [hh]
      rw [heap_setCell_other _ _ _ _ (by show b ≠ n; omega), heap_setCell_other _ _ _ _ (by show b ≠ n; omega), heap_setCell_other _ _ _ _ (by show b ≠ n; omega), heap_setCell_other _ _ _ _ (by show b ≠ n; omega)]
    rw [← hw9]
    refine bodyPost_ret (v := .tuple #[.agg #[.string x, .slice p0 q0 s0, .slice p1 q1 s1, .slice p2 q2 s2], .bool true]) ?_ rfl ⟨by rw [HN.out]; exact hb9, _, _, _, by rw [HX.out, HPR.out.2], by rw [HN.out]; exact hf9⟩
    exact results_row_tmp (P := Tryz.prog) (fn := Tryz.f15) (p := 2) (u := 3) (ty := 30) rfl _ _ n 30 _ (0, 0) _ _ rfl hrow9 Tryz.underlying30 rfl (ipR _ _ _ _) rfl
end Go.Proofs.YtchnkpgkckadmabGreatDoor
/- slices.Sorted(maps.Keys(m)), laid at this program -/
namespace Go.Proofs
set_option linter.unusedVariables false
open Go.RowKit Go.Maps Go.Sort Go.Shelf
def Tryz.keys12_ren : Go.Shelf.Ren := ⟨fun | 7 => 12 | 10 => 20 | n => n, fun | 23 => 40 | 26 => 9 | 3 => 47 | 28 => 44 | 0 => 0 | 27 => 43 | 33 => 57 | 4 => 4 | n => n, fun | n => n⟩
theorem Tryz.keys12 : Go.Proofs.SlLaysZ.n7 Tryz.prog Tryz.keys12_ren := {
  mixed := by kernel_rfl
  f7 := ⟨Tryz.f12.name, by decide, Tryz.func12.trans (congrArg some (by kernel_rfl))⟩
  f10 := ⟨Tryz.f20.name, by decide, Tryz.func20.trans (congrArg some (by kernel_rfl))⟩
  t0 := Tryz.underlying0
  a0 := Tryz.isAgg0
  z0 := Tryz.sizeOf0
  v0 := Tryz.zeroValue0
  t4 := Tryz.underlying4
  a4 := Tryz.isAgg4
  z4 := Tryz.sizeOf4
  v4 := Tryz.zeroValue4
  t23 := Tryz.underlying40
  a23 := Tryz.isAgg40
  z23 := Tryz.sizeOf40
  v23 := Tryz.zeroValue40
  t26 := Tryz.underlying9
  a26 := Tryz.isAgg9
  z26 := Tryz.sizeOf9
  v26 := Tryz.zeroValue9
  t27 := Tryz.underlying43
  a27 := Tryz.isAgg43
  z27 := Tryz.sizeOf43
  v27 := Tryz.zeroValue43
  t28 := Tryz.underlying44
  a28 := Tryz.isAgg44
  z28 := Tryz.sizeOf44
  v28 := Tryz.zeroValue44
  t33 := Tryz.underlying57
  a33 := Tryz.isAgg57
  z33 := Tryz.sizeOf57
  v33 := Tryz.zeroValue57 }
def Tryz.sorted11_ren : Go.Shelf.Ren := ⟨fun | 6 => 11 | 8 => 18 | 9 => 19 | 11 => 33 | 13 => 35 | 12 => 34 | 23 => 67 | 24 => 68 | 14 => 58 | 15 => 59 | 16 => 60 | 17 => 61 | 18 => 62 | 19 => 63 | 20 => 64 | 21 => 65 | 22 => 66 | 25 => 81 | 26 => 82 | 27 => 83 | 28 => 84 | 29 => 85 | 30 => 86 | 31 => 102 | n => n, fun | 26 => 9 | 28 => 44 | 24 => 22 | 0 => 0 | 3 => 3 | 37 => 75 | 48 => 111 | 50 => 113 | 4 => 4 | 40 => 104 | 39 => 103 | 45 => 68 | 5 => 5 | 9 => 9 | 51 => 134 | 55 => 138 | 57 => 150 | 58 => 151 | 33 => 57 | n => n, fun | n => n⟩
theorem Tryz.sorted11 : Go.Proofs.SlLaysZ.n6 Tryz.prog Tryz.sorted11_ren := {
  mixed := by kernel_rfl
  f6 := ⟨Tryz.f11.name, by decide, Tryz.func11.trans (congrArg some (by kernel_rfl))⟩
  f8 := ⟨Tryz.f18.name, by decide, Tryz.func18.trans (congrArg some (by kernel_rfl))⟩
  f11 := ⟨Tryz.f33.name, by decide, Tryz.func33.trans (congrArg some (by kernel_rfl))⟩
  t0 := Tryz.underlying0
  a0 := Tryz.isAgg0
  z0 := Tryz.sizeOf0
  v0 := Tryz.zeroValue0
  t24 := Tryz.underlying22
  a24 := Tryz.isAgg22
  z24 := Tryz.sizeOf22
  v24 := Tryz.zeroValue22
  t26 := Tryz.underlying9
  a26 := Tryz.isAgg9
  z26 := Tryz.sizeOf9
  v26 := Tryz.zeroValue9
  t28 := Tryz.underlying44
  a28 := Tryz.isAgg44
  z28 := Tryz.sizeOf44
  v28 := Tryz.zeroValue44
  i26 := by kernel_rfl }
def Tryz.sort19_ren : Go.Shelf.Ren := ⟨fun | 6 => 19 | 8 => 35 | 9 => 34 | 19 => 67 | 20 => 68 | 21 => 58 | 22 => 59 | 23 => 60 | 24 => 61 | 25 => 62 | 26 => 63 | 27 => 64 | 28 => 65 | 29 => 66 | 36 => 81 | 31 => 82 | 32 => 83 | 37 => 84 | 38 => 85 | 39 => 86 | 41 => 102 | n => n, fun | 27 => 22 | 29 => 9 | 3 => 3 | 32 => 75 | 26 => 22 | 0 => 0 | 44 => 111 | 46 => 113 | 4 => 4 | 36 => 104 | 35 => 103 | 41 => 68 | 5 => 5 | 9 => 9 | 53 => 134 | 57 => 138 | 63 => 150 | 64 => 151 | n => n, fun | n => n⟩
theorem Tryz.sort19 : Go.Proofs.SlLaysM.n6 Tryz.prog Tryz.sort19_ren := {
  mixed := by kernel_rfl
  f6 := ⟨Tryz.f19.name, by decide, Tryz.func19.trans (congrArg some (by kernel_rfl))⟩
  f8 := Tryz.func35.trans (congrArg some (by kernel_rfl))
  f9 := ⟨Tryz.f34.name, by decide, Tryz.func34.trans (congrArg some (by kernel_rfl))⟩
  f19 := Tryz.func67.trans (congrArg some (by kernel_rfl))
  f20 := Tryz.func68.trans (congrArg some (by kernel_rfl))
  f21 := ⟨Tryz.f58.name, by decide, Tryz.func58.trans (congrArg some (by kernel_rfl))⟩
  f22 := ⟨Tryz.f59.name, by decide, Tryz.func59.trans (congrArg some (by kernel_rfl))⟩
  f23 := ⟨Tryz.f60.name, by decide, Tryz.func60.trans (congrArg some (by kernel_rfl))⟩
  f24 := ⟨Tryz.f61.name, by decide, Tryz.func61.trans (congrArg some (by kernel_rfl))⟩
  f25 := ⟨Tryz.f62.name, by decide, Tryz.func62.trans (congrArg some (by kernel_rfl))⟩
  f26 := ⟨Tryz.f63.name, by decide, Tryz.func63.trans (congrArg some (by kernel_rfl))⟩
  f27 := ⟨Tryz.f64.name, by decide, Tryz.func64.trans (congrArg some (by kernel_rfl))⟩
  f28 := ⟨Tryz.f65.name, by decide, Tryz.func65.trans (congrArg some (by kernel_rfl))⟩
  f29 := ⟨Tryz.f66.name, by decide, Tryz.func66.trans (congrArg some (by kernel_rfl))⟩
  f31 := Tryz.func82.trans (congrArg some (by kernel_rfl))
  f32 := Tryz.func83.trans (congrArg some (by kernel_rfl))
  f36 := ⟨Tryz.f81.name, by decide, Tryz.func81.trans (congrArg some (by kernel_rfl))⟩
  f37 := ⟨Tryz.f84.name, by decide, Tryz.func84.trans (congrArg some (by kernel_rfl))⟩
  f38 := ⟨Tryz.f85.name, by decide, Tryz.func85.trans (congrArg some (by kernel_rfl))⟩
  f39 := ⟨Tryz.f86.name, by decide, Tryz.func86.trans (congrArg some (by kernel_rfl))⟩
  f41 := ⟨Tryz.f102.name, by decide, Tryz.func102.trans (congrArg some (by kernel_rfl))⟩
  t0 := Tryz.underlying0
  a0 := Tryz.isAgg0
  z0 := Tryz.sizeOf0
  v0 := Tryz.zeroValue0
  t3 := Tryz.underlying3
  a3 := Tryz.isAgg3
  z3 := Tryz.sizeOf3
  v3 := Tryz.zeroValue3
  t4 := Tryz.underlying4
  a4 := Tryz.isAgg4
  z4 := Tryz.sizeOf4
  v4 := Tryz.zeroValue4
  t5 := Tryz.underlying5
  a5 := Tryz.isAgg5
  z5 := Tryz.sizeOf5
  v5 := Tryz.zeroValue5
  t9 := Tryz.underlying9
  a9 := Tryz.isAgg9
  z9 := Tryz.sizeOf9
  v9 := Tryz.zeroValue9
  t26 := Tryz.underlying22
  a26 := Tryz.isAgg22
  z26 := Tryz.sizeOf22
  v26 := Tryz.zeroValue22
  t27 := Tryz.underlying22
  a27 := Tryz.isAgg22
  z27 := Tryz.sizeOf22
  v27 := Tryz.zeroValue22
  t29 := Tryz.underlying9
  a29 := Tryz.isAgg9
  z29 := Tryz.sizeOf9
  v29 := Tryz.zeroValue9
  t32 := Tryz.underlying75
  a32 := Tryz.isAgg75
  z32 := Tryz.sizeOf75
  v32 := Tryz.zeroValue75
  t35 := Tryz.underlying103
  a35 := Tryz.isAgg103
  z35 := Tryz.sizeOf103
  v35 := Tryz.zeroValue103
  t36 := Tryz.underlying104
  a36 := Tryz.isAgg104
  z36 := Tryz.sizeOf104
  v36 := Tryz.zeroValue104
  t41 := Tryz.underlying68
  a41 := Tryz.isAgg68
  z41 := Tryz.sizeOf68
  v41 := Tryz.zeroValue68
  t44 := Tryz.underlying111
  a44 := Tryz.isAgg111
  z44 := Tryz.sizeOf111
  v44 := Tryz.zeroValue111
  t46 := Tryz.underlying113
  a46 := Tryz.isAgg113
  z46 := Tryz.sizeOf113
  v46 := Tryz.zeroValue113
  t53 := Tryz.underlying134
  a53 := Tryz.isAgg134
  z53 := Tryz.sizeOf134
  v53 := Tryz.zeroValue134
  t57 := Tryz.underlying138
  a57 := Tryz.isAgg138
  z57 := Tryz.sizeOf138
  v57 := Tryz.zeroValue138
  t63 := Tryz.underlying150
  a63 := Tryz.isAgg150
  z63 := Tryz.sizeOf150
  v63 := Tryz.zeroValue150
  t64 := Tryz.underlying151
  a64 := Tryz.isAgg151
  z64 := Tryz.sizeOf151
  v64 := Tryz.zeroValue151 }
theorem Tryz.sorts11 (m : Nat) : AnyZ.SortsIn Tryz.prog Tryz.sorted11_ren Fence.wide m :=
  ⟨fun blk off cap ss W hH hblk hsz => callsIn_wide.2 (AnyM.slices_Sort_string Tryz.sort19 blk off cap ss W hH hblk hsz),
   fun p cap W => callsIn_wide.2 (AnyM.slices_Sort_string_none Tryz.sort19 p cap W)⟩

theorem Tryz.maps_Keys_12 (mb : Option Nat) (W : World) : CallsIn Fence.wide 5 Tryz.prog 12 #[.map mb] W fun e w' => e = .returned (.func (.func 20) #[] #[.pointer (some ⟨W.heap.size, 0, none⟩)]) ∧ w' = W.alloc (.cells #[.map mb] 40) :=
  AnyZ.keys_in Tryz.keys12 Fence.wide 5 trivial rfl mb W

set_option maxHeartbeats 1000000 in
theorem Tryz.slices_Sorted_keys_11_12 {H : Type} (b nn : Nat) (D0 : DataW H) (R : Value → Option (DataW H × List MemPlace)) (w : World) (hown : w.ownsMap Tryz.prog 9 R b nn D0) (hmax : Maps.size D0 ≤ maxLen) (hbytes : Maps.size D0 * 16 ≤ 140737488355328) :
    CallsIn Fence.wide 5 Tryz.prog 11 #[.func (.func 20) #[] #[.pointer (some ⟨w.heap.size, 0, none⟩)]] (w.alloc (.cells #[.map (some b)] 40)) fun e w' => ∃ (v : Value) (ss : List (List UInt8)), e = .returned v ∧ ss.Perm (strKeys D0) ∧
      w'.ownsRow (w.alloc (.cells #[.map (some b)] 40)).heap.size 9 1 v ss.length ((ss.mergeSort (fun x y => decide (x ≤ y))).map encStr) ∧ (v = .slice none 0 0 ↔ ss = []) ∧ Below (w.alloc (.cells #[.map (some b)] 40)).heap.size (w.alloc (.cells #[.map (some b)] 40)) w' := by
  have hbl := hown.lt
  have hseq : SeqGives Fence.wide 2 Tryz.prog 20 #[.pointer (some ⟨w.heap.size, 0, none⟩)] encStr (fun ss => ss.Perm (strKeys D0)) (Maps.size D0) (w.alloc (.cells #[.map (some b)] 40)) :=
    AnyZ.keys_gives (ρ := Tryz.keys12_ren) { Tryz.keys12 with } Fence.wide _ trivial rfl (by omega) w.heap.size b nn D0 _ (by simp) (by simp) (by
      obtain ⟨es, clock, hb, Ft, hs, hD⟩ := hown
      exact ⟨es, clock, (Below.heap_alloc _ _ b hbl).trans hb, Ft, hs, hD⟩)
  exact AnyZ.sorted_in Tryz.sorted11 Fence.wide 5 trivial trivial trivial trivial rfl (by omega) (Tryz.sorts11 _) (enters_of Tryz.func19 (by kernel_rfl) rfl) 20 #[.pointer (some ⟨w.heap.size, 0, none⟩)] trivial (enters_of Tryz.func20 (by kernel_rfl) rfl) _ _ hmax hbytes _ hseq
end Go.Proofs
namespace Go.Proofs.YtchnkpgkckadmabGreatDoor
set_option linter.unusedSimpArgs false
set_option linter.unusedVariables false
set_option maxRecDepth 100000
open Go.ChangeShapes Go.WideShapes Go.ChangeAt Go.RowKit Go.Pin Go.Pat Go.Deep
open Go.ChangeMaps (setBlock)
open Go.WideElems (Fit rd rg)
/-- how an element of the table reads: it is there -/
def entR (v : Value) : Option (DataW Unit × List MemPlace) := match v with
  | .agg _ => some (.lit (.bool true), [])
  | _ => none
theorem ents_mem : ∀ (L : List (ByteArray × ByteArray)) (c : Nat) (x : MapEntry), x ∈ ents L c → ∃ e, e ∈ L ∧ x.key = .string e.1
  | [], c, x, hx => by cases hx
  | e :: r, c, x, hx => by
    rcases List.mem_cons.1 hx with h | h
    · exact ⟨e, List.mem_cons_self, by rw [h]⟩
    · obtain ⟨e', he', h'⟩ := ents_mem r (c + 1) x h
      exact ⟨e', List.mem_cons_of_mem _ he', h'⟩
theorem ents_len : ∀ (L : List (ByteArray × ByteArray)) (c : Nat), (ents L c).length = L.length
  | [], c => rfl
  | e :: r, c => by simp [ents, ents_len r (c + 1)]
theorem fit_ents : ∀ n, n ≤ 38 → Fit Tryz.prog 9 entR (ents (tbl.take n) 0).toArray n
  | 0, _ => ⟨by simp [ents], MapKept.stamped_empty 0, by simp [ents]⟩
  | n + 1, hn => by
    have ih := fit_ents n (by omega)
    have hl : n < tbl.length := by rw [tbl_len]; omega
    have hln : (tbl.take n).length = n := by rw [List.length_take]; omega
    have e1 : tbl.take (n + 1) = tbl.take n ++ [tbl[n]] := by rw [List.take_append_getElem]
    have hsm := List.all_eq_true.1 tbl_small tbl[n] (List.getElem_mem hl)
    simp only [Bool.and_eq_true, decide_eq_true_eq] at hsm
    have hap : ∀ x ∈ (ents (tbl.take n) 0).toArray.toList, x.key ≠ .string tbl[n].1 := by
      intro x hx hk
      obtain ⟨e, he, h'⟩ := ents_mem _ _ x (by simpa using hx)
      rw [h'] at hk
      injection hk with hk
      have hp := of_decide_eq_true tbl_apart
      rw [← List.take_append_drop n tbl, List.pairwise_append] at hp
      refine hp.2.2 e he tbl[n] ?_ hk
      rw [List.drop_eq_getElem_cons hl]
      exact List.mem_cons_self
    have e2 : (ents (tbl.take (n + 1)) 0).toArray = (ents (tbl.take n) 0).toArray.push ⟨.string tbl[n].1, .agg #[.string tbl[n].2], n⟩ := by
      rw [e1, ents_snoc, hln]
      simp
    rw [e2]
    refine ⟨?_, MapKept.stamped_push ih.stamped hap, ?_⟩
    · have := ih.size
      simp [ents_len, hln, maxLen]
      omega
    · intro x hx
      simp only [Array.toList_push, List.mem_append, List.mem_singleton] at hx
      rcases hx with hx | rfl
      · exact ih.reads x hx
      · refine ⟨(.string tbl[n].1.data.toList, .lit (.bool true)), ?_⟩
        simp [rd, Go.WideMaps.keyOf_string_mk (P := Tryz.prog) Tryz.underlying9 (s := tbl[n].1) (by have := hsm.1; unfold maxLen; omega), entR]
/-- the names, as they stand in the table that is asked -/
def nms : List (List UInt8) := tab.map fun p => p.nm.data.toList
theorem nms_sorted : decide (nms.Pairwise fun x y => decide (x ≤ y) = true) = true := by kernel_rfl
theorem OM.owns {g : Nat} {w : World} (h : OM g tbl w) : ∃ D : DataW Unit, w.ownsMap Tryz.prog 9 entR g 38 D ∧ strKeys D = nms ∧ Go.Maps.size D = 38 := by
  refine ⟨.map (((ents tbl 0).map (rg Tryz.prog 9 entR)).foldr DataW.insert []), ⟨_, _, h, fit_ents 38 (Nat.le_refl _), Nat.le_refl _, rfl⟩, ?_, ?_⟩
  · kernel_rfl
  · kernel_rfl
theorem nms_of {ss : List (List UInt8)} {D : DataW Unit} (hD : strKeys D = nms) (h : ss.Perm (strKeys D)) : ss.mergeSort (fun x y => decide (x ≤ y)) = nms := by
  rw [mergeSort_of_perm h, hD]
  exact List.mergeSort_of_pairwise (of_decide_eq_true nms_sorted)
end Go.Proofs.YtchnkpgkckadmabGreatDoor
