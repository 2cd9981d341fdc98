import Derived.Test.YtpfidohkohldaaaGreatDoorMqar
import Derived.Test.YtpfidohkohldaaaGreatDoorMqap
namespace Go.Proofs.YtpfidohkohldaaaGreatDoor
set_option linter.unusedSimpArgs false
set_option linter.unusedVariables false
set_option maxRecDepth 100000
open Go.ChangeShapes Go.WideShapes Go.ChangeAt Go.RowKit Go.Pin Go.Pat Go.Deep
theorem LS.ftl {q r : Nat} {w0 wr : World} {rest : List UInt8} {vl : Value} {fs : List Lv} (h : LS q r w0 rest vl fs wr) (hn : fs.length ≤ 140737488355328) : FtL (fun b => q ≤ b ∧ b < wr.heap.size) wr vl (lvl fs) := by
  have hs : ∀ b, Fq q vl wr b → (q ≤ b ∧ b < wr.heap.size) := fun b hb => ⟨hb.1, hb.2.1⟩
  have hl : (lvl fs).length = fs.length := by simp [lvl]
  rcases h.own.2 with ⟨e, e2⟩ | ⟨g, cap', cur, e, hb, hg, h1, h2, h3, h4⟩
  · subst e
    exact ⟨none, 0, by rw [hl, e2], by rw [hl, e2]; exact Nat.le_refl _, by rw [hl]; exact hn, fun j hj => by rw [hl, e2] at hj; omega⟩
  · subst e
    refine ⟨some ⟨g, 0, none⟩, cap', by rw [hl], by rw [hl]; exact h1, by rw [hl]; exact hn, fun j hj => ?_⟩
    rw [hl] at hj
    obtain ⟨a1, a2⟩ := lvc_at fs j hj
    obtain ⟨g', e1, _, k1⟩ := (own_cell h.own).2 _ _ a1
    obtain ⟨g'', e2, _, k2⟩ := (own_cell h.own).2 _ _ a2
    injection e1 with e1
    injection e1 with e1
    injection e2 with e2
    injection e2 with e2
    subst e1 e2
    have hgd : (lvl fs).getD j (0, []) = ((fs.getD j (0, undef, [])).1, (fs.getD j (0, undef, [])).2.2) := by simp [lvl, List.getD, hj]
    have hm : fs.getD j (0, undef, []) ∈ fs := by simp [List.getD, hj]
    rw [hgd]
    exact ⟨g, 0, _, ⟨hb, (Array.getElem?_eq_some_iff.1 hg).1⟩, rfl, by rw [Nat.zero_add]; exact k1, by rw [Nat.zero_add]; exact k2, (h.ft _ hm).mono hs⟩
theorem LS.sl {q r : Nat} {w0 wr : World} {rest : List UInt8} {vl : Value} {fs : List Lv} (h : LS q r w0 rest vl fs wr) : ∀ f ∈ fs, ∃ a n c, f.2.1 = .slice a n c := fun f hf => by
  obtain ⟨a, c, e, _⟩ := h.ft f hf
  exact ⟨a, _, c, e⟩
theorem lv01_of {fs : List Lv} (h : LnOk (lvl fs)) : Lv01 fs := fun f hf => (h (f.1, f.2.2) (List.mem_map.2 ⟨f, hf, rfl⟩)).1
/-- a pattern whose lists, its lines too, lie each in a block of its own -/
def OwP (base : Nat) (v0 v1 vl : Value) (p : Pt) (w : World) : Prop :=
  ∃ fs : List Lv, lvl fs = p.ln ∧ w.ownsRow base 43 2 vl fs.length (lvc fs) ∧ OS base vl.ownBlock.toList ((0, v0, p.b0) :: (1, v1, p.b1) :: fs) w
theorem OwP.keep {base : Nat} {v0 v1 vl : Value} {p : Pt} {w w' : World} (h : OwP base v0 v1 vl p w) (hk : ∀ k, base ≤ k → k < w.heap.size → w'.heap[k]? = w.heap[k]?) : OwP base v0 v1 vl p w' := by
  obtain ⟨fs, h1, h2, h3⟩ := h
  exact ⟨fs, h1, own_keep h2 (fun g hg => hk g (h2.lt g hg).1 (h2.lt g hg).2), fun f hf => own_keep (h3.own f hf) (fun g hg => hk g ((h3.own f hf).lt g hg).1 ((h3.own f hf).lt g hg).2), h3.nd⟩
theorem OwP.dn {base b : Nat} {v0 v1 vl : Value} {p : Pt} {w : World} (h : OwP base v0 v1 vl p w) (hb : b ≤ base) : OwP b v0 v1 vl p w := by
  obtain ⟨fs, h1, h2, h3⟩ := h
  exact ⟨fs, h1, own_dn h2 hb, fun f hf => own_dn (h3.own f hf) hb, h3.nd⟩
theorem obs_cons (f : Lv) (fs : List Lv) : obs (f :: fs) = f.2.1.ownBlock.toList ++ obs fs := by unfold obs; rw [List.filterMap_cons]; cases f.2.1.ownBlock <;> rfl
theorem knw_own {q : Nat} {w : World} {fs : List Lv} {b0 b1 : List Int} (h : knw (lvl fs) = some (b0, b1)) (hf : ∀ f ∈ fs, w.ownsRow q 3 1 f.2.1 f.2.2.length (f.2.2.map (Value.int .i64))) (hn : (obs fs).Nodup) (h01 : Lv01 fs) : OS q [] [(0, (KVn fs fs.length).1, b0), (1, (KVn fs fs.length).2, b1)] w := by
  match fs, h, hf, hn, h01 with
  | [], h, _, _, _ => simp [lvl, knw] at h
  | [x], h, hf, hn, h01 =>
    have e : knw (lvl [x]) = if x.1 = 0 then some (x.2.2, []) else some ([], x.2.2) := rfl
    rw [e] at h
    have hk : KVn [x] [x].length = if x.1 = 0 then (x.2.1, .slice none 0 0) else (.slice none 0 0, x.2.1) := rfl
    rw [hk]
    have hx := hf x (by simp)
    rw [obs_cons] at hn
    split at h
    · rename_i h0
      injection h with h
      injection h with h1 h2
      subst h1 h2
      rw [if_pos h0]
      refine ⟨fun f hf' => ?_, ?_⟩
      · rcases List.mem_cons.1 hf' with rfl | hf'
        · exact hx
        · rw [List.mem_singleton.1 hf']; exact own_nil0 _ _ _ _
      · rw [obs_cons, obs_cons]; exact hn
    · rename_i h0
      injection h with h
      injection h with h1 h2
      subst h1 h2
      rw [if_neg h0]
      refine ⟨fun f hf' => ?_, ?_⟩
      · rcases List.mem_cons.1 hf' with rfl | hf'
        · exact own_nil0 _ _ _ _
        · rw [List.mem_singleton.1 hf']; exact hx
      · rw [obs_cons, obs_cons]; exact hn
  | [x, y], h, hf, hn, h01 =>
    have e : knw (lvl [x, y]) = if x.1 < y.1 then some (x.2.2, y.2.2) else none := rfl
    rw [e] at h
    have hk : KVn [x, y] [x, y].length = if y.1 = 0 then (y.2.1, (KVn [x, y] 1).2) else ((KVn [x, y] 1).1, y.2.1) := rfl
    have hk1 : KVn [x, y] 1 = if x.1 = 0 then (x.2.1, .slice none 0 0) else (.slice none 0 0, x.2.1) := rfl
    split at h
    · rename_i hlt
      injection h with h
      injection h with h1 h2
      subst h1 h2
      have k1 := h01 x (by simp)
      have k2 := h01 y (by simp)
      rw [hk, if_neg (by omega), hk1, if_pos (by omega)]
      refine ⟨fun f hf' => ?_, ?_⟩
      · rcases List.mem_cons.1 hf' with rfl | hf'
        · exact hf x (by simp)
        · rw [List.mem_singleton.1 hf']; exact hf y (by simp)
      · rw [obs_cons, obs_cons] at hn ⊢; exact hn
    · simp at h
  | _ :: _ :: _ :: _, h, _, _, _ => simp [lvl, knw] at h
/-- what is known was read first, the lines behind it -/
theorem owp_join {base q r : Nat} {y6 y7 : World} {rest : List UInt8} {vl v0 v1 : Value} {fs : List Lv} {b0 b1 : List Int} (nm : ByteArray) (hl : LS q r y6 rest vl fs y7) (ho : OS base [] [(0, v0, b0), (1, v1, b1)] y7) (hlt : ∀ k ∈ obs [(0, v0, b0), (1, v1, b1)], k < q) (hq : base ≤ q) : OwP base v0 v1 vl ⟨nm, b0, b1, lvl fs⟩ y7 := by
  refine ⟨fs, rfl, own_dn hl.own hq, fun f hf => ?_, ?_⟩
  · rcases List.mem_cons.1 hf with rfl | hf
    · exact ho.own _ (by simp)
    · rcases List.mem_cons.1 hf with rfl | hf
      · exact ho.own _ (by simp)
      · exact own_dn (hl.ow f hf) hq
  · have hsp : obs ((0, v0, b0) :: (1, v1, b1) :: fs) = obs [(0, v0, b0), (1, v1, b1)] ++ obs fs := by rw [← obs_app]; rfl
    rw [hsp]
    have hno := ho.nd
    rw [List.nil_append] at hno
    have hge : ∀ k ∈ obs fs, q ≤ k := fun k hk => by
      obtain ⟨f, hf, hfk⟩ := List.mem_filterMap.1 hk
      exact ((hl.ow f hf).lt k hfk).1
    have hvl : ∀ k ∈ vl.ownBlock.toList, q ≤ k ∧ k ∉ obs fs := fun k hk => by
      have hk' : vl.ownBlock = some k := by simpa using hk
      refine ⟨(hl.own.lt k hk').1, fun hm => ?_⟩
      obtain ⟨f, hf, hfk⟩ := List.mem_filterMap.1 hm
      exact own_ne (hl.ow f hf) hl.own (by decide) hfk hk'
    rw [List.nodup_append]
    refine ⟨by cases vl.ownBlock <;> simp, ?_, fun k hk m hm e => ?_⟩
    · rw [List.nodup_append]
      exact ⟨hno, hl.nd, fun k hk m hm e => by subst e; have := hlt k hk; have := hge k hm; omega⟩
    · subst e
      obtain ⟨h1, h2⟩ := hvl k hk
      rcases List.mem_append.1 hm with hm | hm
      · have := hlt k hm; omega
      · exact h2 hm
/-- what the reader's pattern answers -/
def RpP (ea : Int → Addr) (r : Nat) (l : List UInt8) (w : World) (e : Ending) (w' : World) : Prop :=
  Up r w w' ∧ match patL l with
    | none => e = PN ea
    | some p => ∃ v0 v1 vl, e = .returned (.agg #[.string p.nm, v0, v1, vl]) ∧ FtP (fun b => w.heap.size < b ∧ b < w'.heap.size) w' v0 v1 vl p ∧ OwP (w.heap.size + 1) v0 v1 vl p w'
/-- the reader's pattern, when it has read the name -/
def pat1 (nm : ByteArray) (l : List UInt8) : Option Pt :=
  match rowsL l with
  | none => none
  | some (R, r) =>
    if pfx dL r then
      match knw R with
      | none => none
      | some (b0, b1) => match rowsL (r.drop 6) with
        | none => none
        | some (R2, r2) => if r2 = [] then some ⟨nm, b0, b1, R2⟩ else none
    else if r = [] then some ⟨nm, [], [], R⟩ else none
theorem patL_1 (l : List UInt8) : patL l = if ctb nmB l = 0 then none else if pfx [58, 10] (l.drop (ctb nmB l)) = false then none else pat1 (bl (l.take (ctb nmB l))) ((l.drop (ctb nmB l)).drop 2) := rfl
theorem RL_len : ∀ (R : List Ln), LnOk R → R.length ≤ (RL R).length
  | [], _ => Nat.le_refl _
  | (f, ts) :: R, h => by
    have := RL_len R (fun x hx => h x (by simp [hx]))
    rw [RL]
    simp only [List.length_append, List.length_cons]
    omega
theorem bl_nil_ne {l : List UInt8} (h : l ≠ []) : (bl l).toList ≠ [] := fun e => by
  rw [Go.ByteArray.toList_eq] at e
  exact h e
theorem FtN.sl3 {S : Nat → Prop} {w : World} {v : Value} {C : List Int} (h : FtN S w v C) : ∃ a n c, v = .slice a n c := by
  obtain ⟨a, c, e, _⟩ := h
  exact ⟨a, _, c, e⟩
theorem FtL.sl3 {S : Nat → Prop} {w : World} {v : Value} {C : List Ln} (h : FtL S w v C) : ∃ a n c, v = .slice a n c := by
  obtain ⟨a, c, e, _⟩ := h
  exact ⟨a, _, c, e⟩
theorem Up.row {r n : Nat} {a w : World} (h : Up r a w) (hg : a.heap.size = n) (cs : Array Value) : Up r a (w.setRow n cs) :=
  ⟨h.os, h.tape, h.output, by rw [size_setRow]; exact h.size, fun k hk hr => by rw [setRow_other w n k cs (by omega)]; exact h.block k hk hr⟩
set_option maxHeartbeats 8000000 in
theorem rpattern_any {ea : Int → Addr} (r : Nat) (l : List UInt8) (hl : l.length ≤ 4096) (w : World) (hE : ∀ y, Up r w y → Errs ea y) (h : RB r l w) :
    Calls Tryz.prog 23 #[.pointer (some ⟨r, 0, none⟩)] w (RpP ea r l w) := by
  obtain ⟨n, hn⟩ : ∃ n, w.heap.size = n := ⟨_, rfl⟩
  have hrn : r < n := by have := h.lt; omega
  obtain ⟨W, hW⟩ : ∃ W, w.alloc (.cells #[.string ⟨#[]⟩, .slice none 0 0, .slice none 0 0, .slice none 0 0] 26) = W := ⟨_, rfl⟩
  have hal : Below w.heap.size w W := by rw [← hW]; exact (Below.refl _ _).alloc (Nat.le_refl _) _
  have hWn : W.heap[n]? = some (.cells #[.string ⟨#[]⟩, .slice none 0 0, .slice none 0 0, .slice none 0 0] 26) := by rw [← hW, ← hn]; exact heap_alloc_new _ _
  have hWs : W.heap.size = n + 1 := by rw [← hW, size_alloc, hn]
  have hWr := h.below hal
  have HBX : Hid (∀ y, Up r W y → y.heap[n]? = some (.cells #[.string ⟨#[]⟩, .slice none 0 0, .slice none 0 0, .slice none 0 0] 26) ∧ Up r w y) := fun y hy => ⟨(hy.block n (by omega) (by omega)).trans hWn, (Up.of hal).trans hy⟩
  have HE : Hid (∀ y, Up r w y → Errs ea y) := hE
  have HN : Hid (w.heap.size = n ∧ r < n ∧ W.heap.size = n + 1 ∧ l.length ≤ 4096) := ⟨hn, hrn, hWs, hl⟩
  have HP0 : Hid (patL l = _) := patL_1 l
  by_cases h0 : ctb nmB l = 0
  · have HPT : Hid (patL l = none) := by show patL l = none; rw [HP0.out, if_pos h0]
    have CN := rname_no r l hl W (hE _ (Up.of hal)) hWr h0
    have HCN : Hid _ := CN
    clear CN h0 h hE hl hal hWn hWr hWs hrn
    go_enter Tryz.func23, Tryz.ntmps23
    go_wp2_with (go_at_call 40; refine Calls.mono HCN.out ?_; rintro e y1 ⟨rfl, h1⟩; have H1 : Hid (Up r w y1) := (HBX.out y1 h1).2; clear h1)
    refine ⟨rfl, H1.out, ?_⟩
    rw [HPT.out]
  have CN := rname_yes r l hl W hWr h0
  have hle := ctb_le nmB l
  rw [if_neg h0] at HP0
  obtain ⟨NM, hNM⟩ : ∃ s, bl (l.take (ctb nmB l)) = s := ⟨_, rfl⟩
  obtain ⟨l1, hl1⟩ : ∃ x, l.drop (ctb nmB l) = x := ⟨_, rfl⟩
  have hl1n : l1.length ≤ 4096 := by rw [← hl1, List.length_drop]; omega
  rw [hNM, hl1] at CN HP0
  have HCN : Hid _ := CN
  have HL1 : Hid (l1.length ≤ 4096) := hl1n
  clear CN h0 h hE hl hal hWn hWr hWs hrn hle hNM hl1 hl1n
  go_enter Tryz.func23, Tryz.ntmps23
  go_upto_region 2 with (go_at_call 40; refine Calls.mono HCN.out ?_; rintro e y1 ⟨rfl, h1, h2⟩; have H1 : Hid (RB r l1 y1 ∧ Up r W y1) := ⟨h1, h2⟩; clear h1 h2)
  cases hp : pfx [58, 10] l1 with
  | false =>
    have HPT : Hid (patL l = none) := by show patL l = none; rw [HP0.out, if_pos hp]
    have CW := want_no (ea := ea) r l1 ⟨#[58, 10]⟩ y1 (fun z hz => HE.out z (HBX.out z (H1.out.2.trans hz)).2) H1.out.1 hp
    have HCW : Hid _ := CW
    clear CW hp
    go_wp2_with (go_at_call 41; refine Calls.mono HCW.out ?_; rintro e y2 ⟨rfl, h1⟩; have H2 : Hid (Up r w y2) := (HBX.out y2 (H1.out.2.trans h1)).2; clear h1)
    refine ⟨rfl, H2.out, ?_⟩
    rw [HPT.out]
  | true =>
    have CW := want_yes r l1 ⟨#[58, 10]⟩ y1 H1.out.1 hp
    have HPL : Hid (patL l = pat1 NM (l1.drop 2)) := by show patL l = _; rw [HP0.out, if_neg (by simp [hp])]
    have CW' : Calls Tryz.prog 41 #[.pointer (some ⟨r, 0, none⟩), .string ⟨#[58, 10]⟩] y1 fun e w' => e = .returned (.tuple #[]) ∧ RB r (l1.drop 2) w' ∧ Up r y1 w' := CW
    have HCW : Hid _ := CW'
    clear CW CW' hp HP0
    go_upto_region 3 with (go_at_call 41; refine Calls.mono HCW.out ?_; rintro e y2 ⟨rfl, h1, h2⟩; have H2 : Hid (RB r (l1.drop 2) y2 ∧ Up r W y2) := ⟨h1, H1.out.2.trans h2⟩; clear h1 h2)
    have CR := rows_any' (ea := ea) r (l1.drop 2) (by have := HL1.out; rw [List.length_drop]; omega) y2 (fun z hz => HE.out z (HBX.out z (H2.out.2.trans hz)).2) H2.out.1
    unfold RwsP at CR
    unfold pat1 at HPL
    cases hrw : rowsL (l1.drop 2) with
    | none =>
      have HPT : Hid (patL l = none) := by show patL l = none; rw [HPL.out, hrw]
      simp only [hrw] at CR
      have HCR : Hid _ := CR
      clear CR hrw HPL
      go_wp2_with (go_at_call 42; refine Calls.mono HCR.out ?_; rintro e y3 ⟨rfl, h1⟩; have H3 : Hid (Up r w y3) := (HBX.out y3 (H2.out.2.trans h1)).2; clear h1)
      refine ⟨rfl, H3.out, ?_⟩
      rw [HPT.out]
    | some x =>
      obtain ⟨R, rest1⟩ := x
      have hbk := rowsL_bck _ _ _ _ (Nat.le_refl _) hrw
      simp only [hrw] at CR
      rw [hrw] at HPL
      simp only at HPL
      have HCR : Hid _ := CR
      have HBK : Hid (LnOk R ∧ rest1.length ≤ 4096 ∧ R.length ≤ 4096) := by
        refine ⟨hbk.2.1, ?_, ?_⟩
        · have := hbk.2.2
          have := HL1.out
          rw [List.length_drop] at *
          omega
        · have h2 := congrArg List.length hbk.1
          have h3 := RL_len R hbk.2.1
          rw [List.length_append, List.length_drop] at h2
          have := HL1.out
          omega
      clear CR hrw hbk
      go_upto_region 4 with (go_at_call 42; refine Calls.mono HCR.out ?_; rintro e y3 ⟨vl1, fs1, rfl, hfs, hls⟩; obtain ⟨va, vc, rfl⟩ := own_slice' hls.own; have H3 : Hid (LS y2.heap.size r y2 rest1 (.slice va fs1.length vc) fs1 y3 ∧ lvl fs1 = R) := ⟨hls, hfs⟩; clear hfs hls)
      obtain ⟨kb, hkb⟩ : ∃ k, y3.heap.size = k := ⟨_, rfl⟩
      obtain ⟨V3, hV3⟩ : ∃ V, y3.alloc (.cells #[.slice none 0 0, .slice none 0 0] 23) = V := ⟨_, rfl⟩
      have hal3 : Below y3.heap.size y3 V3 := by rw [← hV3]; exact (Below.refl _ _).alloc (Nat.le_refl _) _
      have hls3 := H3.out.1.on (Up.of hal3) (H3.out.1.rb.below hal3)
      have hk3 : V3.heap[kb]? = some (.cells #[.slice none 0 0, .slice none 0 0] 23) := by rw [← hV3, ← hkb]; exact heap_alloc_new _ _
      have hn2 : n < y2.heap.size := by have := H2.out.2.size; have := HN.out.2.2.1; omega
      have HV3 : Hid (LS y2.heap.size r y2 rest1 (.slice va fs1.length vc) fs1 V3 ∧ V3.heap[kb]? = some (.cells #[.slice none 0 0, .slice none 0 0] 23) ∧ V3.heap.size = kb + 1 ∧ y2.heap.size ≤ kb ∧ n < y2.heap.size) := ⟨hls3, hk3, by rw [← hV3, size_alloc, hkb], by rw [← hkb]; exact H3.out.1.size, hn2⟩
      have CK := take_any r rest1 ⟨#[32, 32, 46, 46, 46, 10]⟩ V3 hls3.rb
      rw [show toL ⟨#[32, 32, 46, 46, 46, 10]⟩ = dL from rfl] at CK
      try simp only [hkb, hV3]
      have HFS : Hid (fs1.length ≤ 4096 ∧ Lv01 fs1) := by
        have e := H3.out.2
        refine ⟨?_, lv01_of (by rw [e]; exact HBK.out.1)⟩
        have := HBK.out.2.2
        rw [← e] at this
        simpa [lvl] using this
      have HV3b : Hid (y3.heap.size = kb ∧ ∀ b, b < kb → V3.heap[b]? = y3.heap[b]?) := ⟨hkb, fun b hb => hal3.block b (by omega)⟩
      clear hal3 hls3 hk3 hn2 hkb hV3
      cases hp : pfx dL rest1 with
      | false =>
        rw [hp, show tke dL rest1 = rest1 by unfold tke; rw [hp]; rfl] at CK
        have HCK : Hid _ := CK
        rw [hp] at HPL
        have HPL2 : Hid (patL l = if rest1 = [] then some ⟨NM, [], [], R⟩ else none) := HPL.out
        clear CK hp HPL
        go_upto_region 7 with (go_at_call 43; refine Calls.mono HCK.out ?_; rintro e y4 ⟨rfl, h1, h2⟩; have H4 : Hid (LS y2.heap.size r y2 rest1 (.slice va fs1.length vc) fs1 y4 ∧ Up r V3 y4) := ⟨HV3.out.1.on h2 h1, h2⟩; clear h1 h2)
        have hlast := H4.out.1
        have HPL := HPL2
        have HKB : Hid (y4.heap[kb]? = some (.cells #[.slice none 0 0, .slice none 0 0] 23)) := (H4.out.2.block kb (by have := HV3.out.2.2.1; omega) (by have := HV3.out.2.2.2; have := HN.out.2.1; omega)).trans HV3.out.2.1
        cases hre : rest1 with
        | nil =>
          rw [hre] at hlast
          have hcr : y4.cell? ⟨r, 0, none⟩ = some (.string ⟨#[]⟩) := hlast.rb.c
          have HPT : Hid (patL l = some ⟨NM, [], [], lvl fs1⟩) := by
            show patL l = _
            rw [HPL.out]
            rw [if_pos hre, H3.out.2]
          have hrowK := HKB.out
          have hfin : FtP (fun b => n < b ∧ b < y4.heap.size) y4 (Value.slice none 0 0) (Value.slice none 0 0) (Value.slice va fs1.length vc) ⟨NM, [], [], lvl fs1⟩ := ⟨ft_nil _ _, ft_nil _ _, (hlast.ftl (by have := HFS.out.1; omega)).mono (fun b hb => ⟨by have := HV3.out.2.2.2.2; omega, hb.2⟩)⟩
          have k0 : y4.cell? ⟨kb, 0, none⟩ = some (Value.slice none 0 0) := by rw [cell_of_row _ _ _ _ _ _ hrowK]; rfl
          have k1 : y4.cell? ⟨kb, 1, none⟩ = some (Value.slice none 0 0) := by rw [cell_of_row _ _ _ _ _ _ hrowK]; rfl
          have HOW : Hid (OwP (n + 1) (Value.slice none 0 0) (Value.slice none 0 0) (Value.slice va fs1.length vc) ⟨NM, [], [], lvl fs1⟩ y4) := owp_join NM hlast ⟨fun f hf => by simp at hf; rcases hf with rfl | rfl <;> exact own_nil0 _ _ _ _, by simp [obs, Value.ownBlock]⟩ (fun k hk => by simp [obs, Value.ownBlock] at hk) (by have := HV3.out.2.2.2.2; omega)
          have HFIN : Hid (FtP (fun b => n < b ∧ b < y4.heap.size) y4 (Value.slice none 0 0) (Value.slice none 0 0) (Value.slice va fs1.length vc) ⟨NM, [], [], lvl fs1⟩ ∧ Up r w y4) := ⟨hfin, (HBX.out _ (H2.out.2.trans hlast.up)).2⟩
          have hbn : y4.heap[n]? = some (.cells #[.string ⟨#[]⟩, .slice none 0 0, .slice none 0 0, .slice none 0 0] 26) := (HBX.out y4 (H2.out.2.trans hlast.up)).1
          have HBN : Hid _ := hbn
          have hz4 : (Tryz.prog.info? 26).map (·.size) = some (#[Value.string NM, Value.slice none 0 0, Value.slice none 0 0, Value.slice va fs1.length vc] : Array Value).size := by
            have : (Tryz.prog.info? 26).map (·.size) = some 4 := by kernel_rfl
            exact this
          have HZ4 : Hid _ := hz4
          have CMY := must_yes y4
          clear hlast hfin hbn hre hz4 hrowK
          go_wp2_with (first
            | (go_at_call 45; refine CMY.mono ?_; rintro e w9 ⟨rfl, rfl⟩)
            | (with_reducible refine at_list ?_; refine hold_store 26 (.tmp 2) (.tmp 28) rfl ?_))
          refine wpList_store_row rfl 26 (.tmp 2) (.tmp 28) rfl n #[.string NM, Value.slice none 0 0, Value.slice none 0 0, Value.slice va fs1.length vc] rfl rfl 26 #[.string ⟨#[]⟩, .slice none 0 0, .slice none 0 0, .slice none 0 0] HBN.out HZ4.out rfl (by simp [Value.oneCell']) ?_
          go_wp2
          refine bodyPost_ret (v := .agg #[.string NM, Value.slice none 0 0, Value.slice none 0 0, Value.slice va fs1.length vc]) ?_ rfl ⟨?_, ?_⟩
          · exact results_cell_row (P := Tryz.prog) (fn := Tryz.f23) (p := 2) (ty := 26) rfl _ _ n 26 _ (0, 0) _ rfl (setRow_heap _ _ _ _ 26 _ HBN.out) Tryz.underlying26 rfl HZ4.out
          · exact HFIN.out.2.row (HN.out.1) _
          · rw [HPT.out]
            refine ⟨_, _, _, rfl, ?_⟩
            rw [HN.out.1, size_setRow]
            exact ⟨HFIN.out.1.keep (fun b hb => setRow_other _ _ _ _ (by have := hb.1; omega)), HOW.out.keep (fun b hb _ => setRow_other _ _ _ _ (by omega))⟩
        | cons c cs =>
          rw [hre] at hlast
          have hcr := hlast.rb.c
          have hne := bl_nil_ne (l := c :: cs) (by simp)
          have hne2 : (bl (c :: cs)).toList.isEmpty = false := by simpa using hne
          have HPT : Hid (patL l = none) := by
            show patL l = _
            rw [HPL.out]
            rw [if_neg (by rw [hre]; simp)]
          have HUP : Hid (Up r w y4) := (HBX.out _ (H2.out.2.trans hlast.up)).2
          have CMN := must_no y4 (HE.out _ (HBX.out _ (H2.out.2.trans hlast.up)).2)
          obtain ⟨sx, hsx⟩ : ∃ s, bl (c :: cs) = s := ⟨_, rfl⟩
          rw [hsx] at hcr hne hne2
          clear hlast hre hsx
          go_wp2_with (first
            | (go_at_call 45; refine CMN.mono ?_; rintro e w9 ⟨rfl, rfl⟩))
          refine ⟨rfl, HUP.out, ?_⟩
          rw [HPT.out]
      | true =>
        have hdl : (rest1.drop 6).length ≤ 4096 := by have := HBK.out.2.1; rw [List.length_drop]; omega
        rw [hp, show tke dL rest1 = rest1.drop 6 by unfold tke; rw [hp]; rfl] at CK
        have HCK : Hid _ := CK
        rw [hp] at HPL
        simp only [if_true] at HPL
        clear CK hp
        go_upto_region 5 with (go_at_call 43; refine Calls.mono HCK.out ?_; rintro e y4 ⟨rfl, h1, h2⟩; have H4 : Hid (LS y2.heap.size r y2 (rest1.drop 6) (.slice va fs1.length vc) fs1 y4 ∧ Up r V3 y4) := ⟨HV3.out.1.on h2 h1, h2⟩; clear h1 h2)
        have CKN := knownOf_any (ea := ea) y2.heap.size (.slice va fs1.length vc) fs1 y4 (HE.out _ (HBX.out _ (H2.out.2.trans H4.out.1.up)).2) H4.out.1.own HFS.out.2 H4.out.1.sl HFS.out.1
        unfold KnP at CKN
        rw [H3.out.2] at CKN
        cases hkn : knw R with
        | none =>
          have HPT : Hid (patL l = none) := by show patL l = none; rw [HPL.out, hkn]
          simp only [hkn] at CKN
          have HCKN : Hid _ := CKN
          clear CKN hkn HPL hdl
          go_wp2_with (go_at_call 44; refine Calls.mono HCKN.out ?_; rintro e y5 ⟨h1, rfl⟩; have H5 : Hid (Up r w y5) := (HBX.out _ (H2.out.2.trans (H4.out.1.up.trans (Up.of h1)))).2; clear h1)
          refine ⟨rfl, H5.out, ?_⟩
          rw [HPT.out]
        | some z =>
          obtain ⟨b0, b1⟩ := z
          have hkv := knw_kv (w := y3) (by rw [H3.out.2]; exact hkn) H3.out.1.ft HFS.out.2
          obtain ⟨⟨p0, q0, s0, e0⟩, ⟨p1, q1, s1, e1⟩⟩ := KVn_sl (fs := fs1) H3.out.1.sl fs1.length (Nat.le_refl _)
          have hko := knw_own (w := y3) (q := y2.heap.size) (by rw [H3.out.2]; exact hkn) H3.out.1.ow H3.out.1.nd HFS.out.2
          rw [e0, e1] at hkv hko
          have HKO : Hid (OS y2.heap.size [] [(0, .slice p0 q0 s0, b0), (1, .slice p1 q1 s1, b1)] y3) := hko
          clear hko
          simp only [hkn] at CKN
          rw [e0, e1] at CKN
          rw [hkn] at HPL
          simp only at HPL
          have HKVF : Hid (FtN (Fq y2.heap.size (.slice va fs1.length vc) y3) y3 (.slice p0 q0 s0) b0 ∧ FtN (Fq y2.heap.size (.slice va fs1.length vc) y3) y3 (.slice p1 q1 s1) b1) := hkv
          have HCKN : Hid _ := CKN
          have hi2 : (Tryz.prog.info? 23).map (·.size) = some (#[Value.slice p0 q0 s0, Value.slice p1 q1 s1] : Array Value).size := by
            have : (Tryz.prog.info? 23).map (·.size) = some 2 := by kernel_rfl
            exact this
          have HI2 : Hid _ := hi2
          clear CKN hkn hkv e0 e1 hi2
          go_wp2_with (first
            | (go_at_call 44; refine Calls.mono HCKN.out ?_; rintro e y5 ⟨h1, rfl⟩; have H5 : Hid (Below y4.heap.size y4 y5) := h1; clear h1)
            | (with_reducible refine at_list ?_; refine hold_store 23 (.tmp 5) (.tmp 16) rfl ?_))
          have hkr : kb ≠ r := by have := HV3.out.2.2.2; have := HN.out.2.1; omega
          have hk4 : y4.heap[kb]? = some (.cells #[.slice none 0 0, .slice none 0 0] 23) := (H4.out.2.block kb (by have := HV3.out.2.2.1; omega) hkr).trans HV3.out.2.1
          have hs4 : kb < y4.heap.size := (Array.getElem?_eq_some_iff.1 hk4).1
          have hk5 : y5.heap[kb]? = some (.cells #[.slice none 0 0, .slice none 0 0] 23) := (H5.out.block kb hs4).trans hk4
          refine wpList_store_row rfl 23 (.tmp 5) (.tmp 16) rfl kb #[.slice p0 q0 s0, .slice p1 q1 s1] rfl rfl 23 #[.slice none 0 0, .slice none 0 0] hk5 HI2.out rfl (by simp [Value.oneCell']) ?_
          obtain ⟨y6, hy6⟩ : ∃ y, y5.setRow kb #[.slice p0 q0 s0, .slice p1 q1 s1] = y := ⟨_, rfl⟩
          have h6k : y6.heap[kb]? = some (.cells #[.slice p0 q0 s0, .slice p1 q1 s1] 23) := by rw [← hy6]; exact setRow_heap _ _ _ _ _ _ hk5
          have h6b : ∀ b, b ≠ kb → y6.heap[b]? = y5.heap[b]? := fun b hb => by rw [← hy6]; exact setRow_other _ _ _ _ hb
          have h6s : y6.heap.size = y5.heap.size := by rw [← hy6, size_setRow]
          have hr5 : RB r (rest1.drop 6) y5 := H4.out.1.rb.below H5.out
          have h6r : RB r (rest1.drop 6) y6 := (h6b r hkr.symm).trans hr5
          have hW5 : Up r W y5 := H2.out.2.trans (H4.out.1.up.trans (Up.of H5.out))
          have hkW : W.heap.size ≤ kb := by have := HV3.out.2.2.2; have := HN.out.2.2.1; omega
          have hW6 : Up r W y6 := ⟨by rw [← hy6]; exact hW5.os, by rw [← hy6]; exact hW5.tape, by rw [← hy6]; exact hW5.output, by rw [h6s]; exact hW5.size, fun b hb hbr => (h6b b (by omega)).trans (hW5.block b hb hbr)⟩
          have h36 : ∀ b, b < kb → b ≠ r → y6.heap[b]? = y3.heap[b]? := fun b hb hbr => by
            have k1 := HV3b.out.2 b hb
            have k2 := H4.out.2.block b (by have := HV3.out.2.2.1; omega) hbr
            have k3 := H5.out.block b (by omega)
            exact (h6b b (by omega)).trans (k3.trans (k2.trans k1))
          have H6 : Hid (RB r (rest1.drop 6) y6 ∧ Up r W y6 ∧ y6.heap[kb]? = some (.cells #[.slice p0 q0 s0, .slice p1 q1 s1] 23) ∧ (∀ b, b < kb → b ≠ r → y6.heap[b]? = y3.heap[b]?) ∧ kb < y6.heap.size ∧ kb ≠ r) := ⟨h6r, hW6, h6k, h36, by rw [h6s]; exact (Array.getElem?_eq_some_iff.1 hk5).1, hkr⟩
          rw [hy6]
          have CR2 := rows_any' (ea := ea) r (rest1.drop 6) hdl y6 (fun z hz => HE.out z (HBX.out z (hW6.trans hz)).2) h6r
          unfold RwsP at CR2
          clear hkr hk4 hs4 hk5 hy6 h6k h6b h6s hr5 h6r hW5 hkW hW6 h36 hdl
          cases hrw : rowsL (rest1.drop 6) with
          | none =>
            have HPT : Hid (patL l = none) := by show patL l = none; rw [HPL.out, hrw]
            simp only [hrw] at CR2
            have HCR2 : Hid _ := CR2
            clear CR2 hrw HPL
            go_wp2_with (go_at_call 42; refine Calls.mono HCR2.out ?_; rintro e y7 ⟨rfl, h1⟩; have H7 : Hid (Up r w y7) := (HBX.out y7 (H6.out.2.1.trans h1)).2; clear h1)
            refine ⟨rfl, H7.out, ?_⟩
            rw [HPT.out]
          | some x =>
            obtain ⟨R2, rest2⟩ := x
            have hbk := rowsL_bck _ _ _ _ (Nat.le_refl _) hrw
            have HB2 : Hid (R2.length ≤ 4096) := by
              show R2.length ≤ 4096
              have h2 := congrArg List.length hbk.1
              have h3 := RL_len R2 hbk.2.1
              rw [List.length_append, List.length_drop] at h2
              have := HBK.out.2.1
              omega
            simp only [hrw] at CR2
            rw [hrw] at HPL
            simp only at HPL
            have HCR2 : Hid _ := CR2
            clear CR2 hrw hbk
            go_upto_region 7 with (go_at_call 42; refine Calls.mono HCR2.out ?_; rintro e y7 ⟨vl2, fs2, rfl, hfs, hls⟩; obtain ⟨wa, wc, rfl⟩ := own_slice' hls.own; have H7 : Hid (LS y6.heap.size r y6 rest2 (.slice wa fs2.length wc) fs2 y7 ∧ lvl fs2 = R2) := ⟨hls, hfs⟩; clear hfs hls)
            have hlast := H7.out.1
            have HKB : Hid (y7.heap[kb]? = some (.cells #[.slice p0 q0 s0, .slice p1 q1 s1] 23)) := (hlast.up.block kb H6.out.2.2.2.2.1 H6.out.2.2.2.2.2).trans H6.out.2.2.1
            have HFS2 : Hid (fs2.length ≤ 4096) := by
              show fs2.length ≤ 4096
              have := HB2.out
              rw [← H7.out.2] at this
              simpa [lvl] using this
            have HKY : Hid (∀ v C, FtN (Fq y2.heap.size (.slice va fs1.length vc) y3) y3 v C → FtN (fun b => n < b ∧ b < y7.heap.size) y7 v C) := fun v C h => by
              have hs7 := hlast.up.size
              have h6s := H6.out.2.2.2.2.1
              refine (h.keep (fun b hb => ?_)).mono (fun b hb => ⟨by have := hb.1; have := HV3.out.2.2.2.2; omega, by have := hb.2.1; have := HV3b.out.1; omega⟩)
              have hbk : b < kb := by have := hb.2.1; have := HV3b.out.1; omega
              have hbr : b ≠ r := by have := hb.1; have := HV3.out.2.2.2.2; have := HN.out.2.1; omega
              exact (hlast.up.block b (by omega) hbr).trans (H6.out.2.2.2.1 b hbk hbr)
            cases hre : rest2 with
            | nil =>
              rw [hre] at hlast
              have hcr : y7.cell? ⟨r, 0, none⟩ = some (.string ⟨#[]⟩) := hlast.rb.c
              have HPT : Hid (patL l = some ⟨NM, b0, b1, lvl fs2⟩) := by
                show patL l = _
                rw [HPL.out]
                rw [if_pos hre, H7.out.2]
              have hrowK := HKB.out
              have hfin : FtP (fun b => n < b ∧ b < y7.heap.size) y7 (Value.slice p0 q0 s0) (Value.slice p1 q1 s1) (Value.slice wa fs2.length wc) ⟨NM, b0, b1, lvl fs2⟩ := ⟨HKY.out _ _ HKVF.out.1, HKY.out _ _ HKVF.out.2, (hlast.ftl (by have := HFS2.out; omega)).mono (fun b hb => ⟨by have := H6.out.2.2.2.2.1; have := HV3.out.2.2.2; have := hb.1; omega, hb.2⟩)⟩
              have k0 : y7.cell? ⟨kb, 0, none⟩ = some (Value.slice p0 q0 s0) := by rw [cell_of_row _ _ _ _ _ _ hrowK]; rfl
              have k1 : y7.cell? ⟨kb, 1, none⟩ = some (Value.slice p1 q1 s1) := by rw [cell_of_row _ _ _ _ _ _ hrowK]; rfl
              have HOW : Hid (OwP (n + 1) (Value.slice p0 q0 s0) (Value.slice p1 q1 s1) (Value.slice wa fs2.length wc) ⟨NM, b0, b1, lvl fs2⟩ y7) := (owp_join NM hlast ⟨fun f hf => own_keep (HKO.out.own f hf) (fun b hb => by
                have hlb := (HKO.out.own f hf).lt b hb
                have hbk : b < kb := by have := HV3b.out.1; omega
                have hbr : b ≠ r := by have := HV3.out.2.2.2.2; have := HN.out.2.1; omega
                have h6s := H6.out.2.2.2.2.1
                exact (hlast.up.block b (by omega) hbr).trans (H6.out.2.2.2.1 b hbk hbr)), HKO.out.nd⟩ (fun k hk => by
                obtain ⟨f, hf, hfk⟩ := List.mem_filterMap.1 hk
                have := ((HKO.out.own f hf).lt k hfk).2
                have := HV3b.out.1
                have := H6.out.2.2.2.2.1
                omega) (by have := HV3.out.2.2.2; have := H6.out.2.2.2.2.1; omega)).dn (by have := HV3.out.2.2.2.2; omega)
              have HFIN : Hid (FtP (fun b => n < b ∧ b < y7.heap.size) y7 (Value.slice p0 q0 s0) (Value.slice p1 q1 s1) (Value.slice wa fs2.length wc) ⟨NM, b0, b1, lvl fs2⟩ ∧ Up r w y7) := ⟨hfin, (HBX.out _ (H6.out.2.1.trans hlast.up)).2⟩
              have hbn : y7.heap[n]? = some (.cells #[.string ⟨#[]⟩, .slice none 0 0, .slice none 0 0, .slice none 0 0] 26) := (HBX.out y7 (H6.out.2.1.trans hlast.up)).1
              have HBN : Hid _ := hbn
              have hz4 : (Tryz.prog.info? 26).map (·.size) = some (#[Value.string NM, Value.slice p0 q0 s0, Value.slice p1 q1 s1, Value.slice wa fs2.length wc] : Array Value).size := by
                have : (Tryz.prog.info? 26).map (·.size) = some 4 := by kernel_rfl
                exact this
              have HZ4 : Hid _ := hz4
              have CMY := must_yes y7
              clear hlast hfin hbn hre hz4 hrowK
              go_wp2_with (first
                | (go_at_call 45; refine CMY.mono ?_; rintro e w9 ⟨rfl, rfl⟩)
                | (with_reducible refine at_list ?_; refine hold_store 26 (.tmp 2) (.tmp 28) rfl ?_))
              refine wpList_store_row rfl 26 (.tmp 2) (.tmp 28) rfl n #[.string NM, Value.slice p0 q0 s0, Value.slice p1 q1 s1, Value.slice wa fs2.length wc] rfl rfl 26 #[.string ⟨#[]⟩, .slice none 0 0, .slice none 0 0, .slice none 0 0] HBN.out HZ4.out rfl (by simp [Value.oneCell']) ?_
              go_wp2
              refine bodyPost_ret (v := .agg #[.string NM, Value.slice p0 q0 s0, Value.slice p1 q1 s1, Value.slice wa fs2.length wc]) ?_ rfl ⟨?_, ?_⟩
              · exact results_cell_row (P := Tryz.prog) (fn := Tryz.f23) (p := 2) (ty := 26) rfl _ _ n 26 _ (0, 0) _ rfl (setRow_heap _ _ _ _ 26 _ HBN.out) Tryz.underlying26 rfl HZ4.out
              · exact HFIN.out.2.row (HN.out.1) _
              · rw [HPT.out]
                refine ⟨_, _, _, rfl, ?_⟩
                rw [HN.out.1, size_setRow]
                exact ⟨HFIN.out.1.keep (fun b hb => setRow_other _ _ _ _ (by have := hb.1; omega)), HOW.out.keep (fun b hb _ => setRow_other _ _ _ _ (by omega))⟩
            | cons c cs =>
              rw [hre] at hlast
              have hcr := hlast.rb.c
              have hne := bl_nil_ne (l := c :: cs) (by simp)
              have hne2 : (bl (c :: cs)).toList.isEmpty = false := by simpa using hne
              have HPT : Hid (patL l = none) := by
                show patL l = _
                rw [HPL.out]
                rw [if_neg (by rw [hre]; simp)]
              have HUP : Hid (Up r w y7) := (HBX.out _ (H6.out.2.1.trans hlast.up)).2
              have CMN := must_no y7 (HE.out _ (HBX.out _ (H6.out.2.1.trans hlast.up)).2)
              obtain ⟨sx, hsx⟩ : ∃ s, bl (c :: cs) = s := ⟨_, rfl⟩
              rw [hsx] at hcr hne hne2
              clear hlast hre hsx
              go_wp2_with (first
                | (go_at_call 45; refine CMN.mono ?_; rintro e w9 ⟨rfl, rfl⟩))
              refine ⟨rfl, HUP.out, ?_⟩
              rw [HPT.out]
end Go.Proofs.YtpfidohkohldaaaGreatDoor
