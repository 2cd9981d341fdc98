import Derived.Test.YtjhleocpipmklaaDoorMiar
namespace Go.Proofs.YtjhleocpipmklaaDoor
set_option linter.unusedSimpArgs false
set_option linter.unusedVariables false
set_option maxRecDepth 100000
open Go.ChangeShapes Go.WideShapes Go.ChangeAt Go.RowKit Go.Pin Go.Pat Go.Deep
abbrev PN (ea : Int → Addr) : Ending := .panicked [{ v := .iface 173 (.pointer (some (ea 8))), recovered := false }]
theorem must_yes (w : World) : Calls Tryd.prog 103 #[.bool true] w fun e w' => e = .returned (.tuple #[]) ∧ w' = w := by
  go_enter Tryd.func103, Tryd.ntmps103
  go_wp2
  go_end0
  exact ⟨rfl, rfl⟩
theorem must_no {ea : Int → Addr} (w : World) (hE : Errs ea w) : Calls Tryd.prog 103 #[.bool false] w fun e w' => e = PN ea ∧ w' = w := by
  have e2 := (hE.1 8 (by decide)).1
  simp only [eblk] at e2
  go_enter Tryd.func103, Tryd.ntmps103
  go_wp2
  exact ⟨rfl, rfl, rfl⟩
/-- all but the block r is as it was -/
structure Up (r : Nat) (w w' : World) : Prop where
  os : w'.os = w.os
  tape : w'.tape = w.tape
  output : w'.output = w.output
  size : w.heap.size ≤ w'.heap.size
  block : ∀ k, k < w.heap.size → k ≠ r → w'.heap[k]? = w.heap[k]?
theorem Up.refl (r : Nat) (w : World) : Up r w w := ⟨rfl, rfl, rfl, Nat.le_refl _, fun _ _ _ => rfl⟩
theorem Up.trans {r : Nat} {a b c : World} (h : Up r a b) (k : Up r b c) : Up r a c :=
  ⟨k.os.trans h.os, k.tape.trans h.tape, k.output.trans h.output, Nat.le_trans h.size k.size, fun x hx hr => (k.block x (Nat.lt_of_lt_of_le hx h.size) hr).trans (h.block x hx hr)⟩
theorem Up.of {r : Nat} {w w' : World} (h : Below w.heap.size w w') : Up r w w' := ⟨h.os, h.tape, h.output, h.size, fun k hk _ => h.block k hk⟩
theorem Up.to {r q : Nat} {w w' : World} (h : Up r w w') (hq : q ≤ r) (hs : q ≤ w.heap.size) : Below q w w' := ⟨h.os, h.tape, h.output, h.size, fun k hk => h.block k (by omega) (by omega)⟩
theorem Up.set {r : Nat} {a w : World} (h : Up r a w) (i : Nat) (u : Value) : Up r a (w.setCell ⟨r, i, none⟩ u) := by
  have hb := (But.refl (fun k => k = r) w).setCell (p := ⟨r, i, none⟩) rfl u
  exact ⟨hb.os.trans h.os, hb.tape.trans h.tape, hb.output.trans h.output, by rw [hb.size]; exact h.size, fun k hk hr => (hb.block k hr).trans (h.block k hk hr)⟩
def bl (l : List UInt8) : ByteArray := ⟨l.toArray⟩
theorem bl_size (l : List UInt8) : (bl l).size = l.length := List.size_toArray
/-- the reader's box, with what is left of the text -/
def RB (r : Nat) (l : List UInt8) (w : World) : Prop := w.heap[r]? = some (.cells #[.string (bl l)] 135)
theorem RB.c {r : Nat} {l : List UInt8} {w : World} (h : RB r l w) : w.cell? ⟨r, 0, none⟩ = some (.string (bl l)) := by rw [cell_of_row _ _ _ _ _ _ h]; rfl
theorem RB.f {r : Nat} {l : List UInt8} {w : World} (h : RB r l w) : w.frozen? ⟨r, 0, none⟩ = false := frozen_of_row _ _ _ _ _ h
theorem RB.lt {r : Nat} {l : List UInt8} {w : World} (h : RB r l w) : r < w.heap.size := (Array.getElem?_eq_some_iff.1 h).1
theorem RB.set {r : Nat} {l : List UInt8} {w : World} (h : RB r l w) (l' : List UInt8) : RB r l' (w.setCell ⟨r, 0, none⟩ (.string (bl l'))) := by
  unfold RB
  rw [Go.heap_setCell_same _ _ _ _ _ _ h]
  rfl
theorem RB.below {r : Nat} {l : List UInt8} {w w' : World} (h : RB r l w) (hb : Below w.heap.size w w') : RB r l w' := (hb.block r h.lt).trans h
def tke (p l : List UInt8) : List UInt8 := if pfx p l then l.drop p.length else l
theorem tke_len (p l : List UInt8) : (tke p l).length ≤ l.length := by unfold tke; split <;> simp
set_option maxHeartbeats 4000000 in
theorem take_any (r : Nat) (l : List UInt8) (p : ByteArray) (w : World) (h : RB r l w) :
    Calls Tryd.prog 101 #[.pointer (some ⟨r, 0, none⟩), .string p] w fun e w' => e = .returned (.bool (pfx (toL p) l)) ∧ RB r (tke (toL p) l) w' ∧ Up r w w' := by
  have hc := h.c
  have hf := h.f
  have CC := Tryd.strings_CutPrefix (bl l) p w
  have e1 : (⟨(Lib.trimPrefix (bl l).data.toList p.data.toList).toArray⟩ : ByteArray) = bl (tke (toL p) l) := rfl
  have e2 : Lib.hasPrefix (bl l).data.toList p.data.toList = pfx (toL p) l := rfl
  rw [e1, e2] at CC
  obtain ⟨s', hs'⟩ : ∃ s', bl (tke (toL p) l) = s' := ⟨_, rfl⟩
  obtain ⟨pb, hpb⟩ : ∃ b, pfx (toL p) l = b := ⟨_, rfl⟩
  obtain ⟨s, hs⟩ : ∃ s, bl l = s := ⟨_, rfl⟩
  rw [hs', hpb, hs] at CC
  rw [hs] at hc
  have HR : Hid (RB r (tke (toL p) l) (w.setCell ⟨r, 0, none⟩ (.string s')) ∧ Up r w (w.setCell ⟨r, 0, none⟩ (.string s'))) := by
    rw [← hs']
    exact ⟨h.set _, (Up.refl r w).set 0 _⟩
  have HC : Hid _ := CC
  rw [hpb]
  clear h CC e1 e2 hs' hpb hs
  go_enter Tryd.func101, Tryd.ntmps101
  go_wp2_with (go_at_call 76; refine Calls.mono HC.out ?_; rintro e w' ⟨rfl, rfl⟩)
  go_ret
  exact ⟨rfl, HR.out⟩
set_option maxHeartbeats 4000000 in
theorem want_yes (r : Nat) (l : List UInt8) (p : ByteArray) (w : World) (h : RB r l w) (hp : pfx (toL p) l = true) :
    Calls Tryd.prog 99 #[.pointer (some ⟨r, 0, none⟩), .string p] w fun e w' => e = .returned (.tuple #[]) ∧ RB r (l.drop (toL p).length) w' ∧ Up r w w' := by
  have CT := take_any r l p w h
  rw [hp, show tke (toL p) l = l.drop (toL p).length by unfold tke; rw [hp]; rfl] at CT
  have CM := fun y => must_yes y
  clear h hp
  go_enter Tryd.func99, Tryd.ntmps99
  go_wp2_with (first
    | (go_at_call 101; refine CT.mono ?_; rintro e w1 ⟨rfl, h1, h2⟩; have H1 : Hid (RB r (l.drop (toL p).length) w1 ∧ Up r w w1) := ⟨h1, h2⟩; clear h1 h2 CT)
    | (go_at_call 103; refine (CM _).mono ?_; rintro e w2 ⟨rfl, rfl⟩))
  go_end0
  exact ⟨rfl, H1.out⟩
set_option maxHeartbeats 4000000 in
theorem want_no {ea : Int → Addr} (r : Nat) (l : List UInt8) (p : ByteArray) (w : World) (hE : ∀ y, Up r w y → Errs ea y) (h : RB r l w) (hp : pfx (toL p) l = false) :
    Calls Tryd.prog 99 #[.pointer (some ⟨r, 0, none⟩), .string p] w fun e w' => e = PN ea ∧ Up r w w' := by
  have CT := take_any r l p w h
  rw [hp] at CT
  have CM := fun y hy => must_no (ea := ea) y (hE y hy)
  have HCM : Hid _ := CM
  clear h hp hE CM
  go_enter Tryd.func99, Tryd.ntmps99
  go_wp2_with (first
    | (go_at_call 101; refine CT.mono ?_; rintro e w1 ⟨rfl, h1, h2⟩; have H1 : Hid (Up r w w1) := h2; clear h1 h2 CT)
    | (go_at_call 103; refine (HCM.out _ H1.out).mono ?_; rintro e w2 ⟨rfl, rfl⟩))
  exact ⟨rfl, rfl, H1.out⟩
end Go.Proofs.YtjhleocpipmklaaDoor
namespace Go.Proofs.YtjhleocpipmklaaDoor
set_option linter.unusedSimpArgs false
set_option linter.unusedVariables false
set_option maxRecDepth 100000
open Go.ChangeShapes Go.WideShapes Go.ChangeAt Go.RowKit Go.Pin Go.Pat Go.Deep
theorem sclone_any (s : ByteArray) (hs : s.size ≤ 140737488365328) (w : World) : Calls Tryd.prog 41 #[.string s] w fun e w' => e = .returned (.string s) ∧ Below w.heap.size w w' := by
  have C := Tryd.stringslite_Clone s w (by omega)
  go_enter Tryd.func41, Tryd.ntmps41
  go_wp2_with (go_at_call 65; refine C.mono ?_; rintro e w1 ⟨rfl, h1⟩; have H1 : Hid (Below w.heap.size w w1) := h1; clear h1)
  go_ret
  exact ⟨rfl, H1.out⟩
theorem bl_ext0 (l : List UInt8) (n : Nat) : (bl l).extract 0 n = bl (l.take n) := toL_inj (by rw [toL_ext]; rfl)
theorem bl_ext1 (l : List UInt8) (n : Nat) : (bl l).extract n (bl l).size = bl (l.drop n) := toL_inj (by rw [toL_ext, bl_size, show toL (bl l) = l from rfl, List.take_of_length_le (Nat.le_refl _)]; rfl)
set_option maxHeartbeats 4000000 in
theorem rname_yes (r : Nat) (l : List UInt8) (hl : l.length ≤ 4096) (w : World) (h : RB r l w) (h0 : ctb nmB l ≠ 0) :
    Calls Tryd.prog 98 #[.pointer (some ⟨r, 0, none⟩)] w fun e w' => e = .returned (.string (bl (l.take (ctb nmB l)))) ∧ RB r (l.drop (ctb nmB l)) w' ∧ Up r w w' := by
  have hsz := bl_size l
  have CN := nameLength_any (bl l) (by omega) w
  rw [show toL (bl l) = l from rfl] at CN
  have hle := ctb_le nmB l
  have e0 := bl_ext0 l (ctb nmB l)
  have e1 := bl_ext1 l (ctb nmB l)
  have hset := fun y (hy : RB r l y) => hy.set (l.drop (ctb nmB l))
  have CC := fun y => sclone_any (bl (l.take (ctb nmB l))) (by rw [bl_size, List.length_take]; omega) y
  obtain ⟨n, hn⟩ : ∃ n, ctb nmB l = n := ⟨_, rfl⟩
  rw [hn] at CN hle e0 e1 hset CC h0
  rw [hn]
  have HS : Hid _ := hset
  have HR : Hid (RB r l w) := h
  have hc := h.c
  have hf := h.f
  obtain ⟨s, hs⟩ : ∃ s, bl l = s := ⟨_, rfl⟩
  rw [hs] at CN hc e0 e1 hsz
  obtain ⟨a, ha⟩ : ∃ s, bl (l.take n) = s := ⟨_, rfl⟩
  obtain ⟨b, hb⟩ : ∃ s, bl (l.drop n) = s := ⟨_, rfl⟩
  rw [ha] at e0 CC
  rw [hb] at e1 HS
  rw [ha]
  rw [hsz] at e1
  have CM := fun y => must_yes y
  have g0 : (0 : Int) < (n : Int) := by omega
  have g0' : 0 < n := by omega
  have g1 : (n : Int) ≤ (s.size : Int) := by omega
  have g2 : (s.size : Int) ≤ 4096 := by omega
  have HC : Hid (∀ y, RB r l y → y.cell? ⟨r, 0, none⟩ = some (.string s) ∧ y.frozen? ⟨r, 0, none⟩ = false) := fun y hy => by rw [← hs]; exact ⟨hy.c, hy.f⟩
  clear h hset hs ha hb hn h0
  go_enter Tryd.func98, Tryd.ntmps98
  go_upto_region 4 with (first
    | (go_at_call 112; refine CN.mono ?_; rintro e w1 ⟨rfl, rfl⟩)
    | (go_at_call 103; refine (CM _).mono ?_; rintro e w2 ⟨rfl, rfl⟩)
    | (go_at_call 41; (try rw [e0]); refine (CC _).mono ?_; rintro e w3 ⟨rfl, h3⟩; have H3 : Hid (RB r l w3 ∧ Below _ _ w3) := ⟨HR.out.below h3, h3⟩; clear h3 hc hf))
  have hc := (HC.out w3 H3.out.1).1
  have hf := (HC.out w3 H3.out.1).2
  go_wp2
  go_ret
  exact ⟨rfl, HS.out w3 H3.out.1, (Up.of H3.out.2).set 0 _⟩
set_option maxHeartbeats 4000000 in
theorem rname_no {ea : Int → Addr} (r : Nat) (l : List UInt8) (hl : l.length ≤ 4096) (w : World) (hE : Errs ea w) (h : RB r l w) (h0 : ctb nmB l = 0) :
    Calls Tryd.prog 98 #[.pointer (some ⟨r, 0, none⟩)] w fun e w' => e = PN ea ∧ Up r w w' := by
  have hsz := bl_size l
  have CN := nameLength_any (bl l) (by omega) w
  rw [show toL (bl l) = l from rfl, h0] at CN
  have hc := h.c
  have CM := must_no w hE
  have CN' : Calls Tryd.prog 112 #[.string (bl l)] w fun e w' => e = .returned (.int .i64 0) ∧ w' = w := CN
  clear h hsz CN h0
  go_enter Tryd.func98, Tryd.ntmps98
  go_wp2_with (first
    | (go_at_call 112; refine CN'.mono ?_; rintro e w1 ⟨rfl, rfl⟩)
    | (go_at_call 103; refine CM.mono ?_; rintro e w2 ⟨rfl, rfl⟩))
  exact ⟨rfl, rfl, Up.refl _ _⟩
/-- the token whose word it is -/
theorem wrd_inj : ∀ j : Nat, j < 8 → ∀ k : Nat, k < 8 → wrd (j : Int) = wrd (k : Int) → j = k := by
  intro j hj k hk h
  have key : ∀ j : Fin 8, ∀ k : Fin 8, toL (wrd ((j : Nat) : Int)) = toL (wrd ((k : Nat) : Int)) → j = k := by decide
  have := key ⟨j, hj⟩ ⟨k, hk⟩ (by rw [h])
  simpa using this
theorem tokO_hit (x : ByteArray) (i : Nat) (hi : i < 8) (h1 : 1 ≤ i) (h : wrd (i : Int) = x) : ∀ n, i ≤ n → n ≤ 7 → tokO x n = i
  | 0, h0, _ => by omega
  | n + 1, hn, h7 => by
    unfold tokO
    split
    · rename_i hw
      exact wrd_inj _ (by omega) _ hi (hw.trans h.symm)
    · rename_i hw
      have : i ≠ n + 1 := fun e => hw (by rw [← e]; exact h)
      exact tokO_hit x i hi h1 h n (by omega) (by omega)
theorem tokO_miss (x : ByteArray) (h : ∀ j : Nat, 1 ≤ j → j < 8 → wrd (j : Int) ≠ x) : ∀ n, n ≤ 7 → tokO x n = 0
  | 0, _ => rfl
  | n + 1, h7 => by
    unfold tokO
    rw [if_neg (h (n + 1) (by omega) (by omega))]
    exact tokO_miss x h n (by omega)
theorem words_index (i : Nat) (h : i < 8) (w : World) : (Instr.index 172 (.agg c_tokenWords.toArray) (.int .i64 i)).run Tryd.prog w = .ok (.string (wrd i)) w := by
  rcases (by omega : i = 0 ∨ i = 1 ∨ i = 2 ∨ i = 3 ∨ i = 4 ∨ i = 5 ∨ i = 6 ∨ i = 7) with rfl | rfl | rfl | rfl | rfl | rfl | rfl | rfl
  all_goals kernel_rfl
/-- what tokenOf answers -/
def TkP (ea : Int → Addr) (x : ByteArray) (w : World) (e : Ending) (w' : World) : Prop :=
  w' = w ∧ if tokO x 7 = 0 then e = PN ea else e = .returned (.int .i64 (tokO x 7))
set_option maxHeartbeats 4000000 in
theorem tokenOf_any {ea : Int → Addr} (x : ByteArray) (hx : x.size ≠ 0) (w : World) (hE : Errs ea w) : Calls Tryd.prog 118 #[.string x] w (TkP ea x w) := by
  have hT := hE.2.tokenWords
  have hI : (Tryd.prog.info? 172).map (·.size) = some c_tokenWords.toArray.size := by kernel_rfl
  have hix := fun i hi => words_index i hi w
  obtain ⟨cz, hcz⟩ : ∃ cz, c_tokenWords = cz := ⟨_, rfl⟩
  rw [hcz] at hI hT hix
  obtain ⟨HA, hHA⟩ : ∃ HA, cz.toArray = HA := ⟨_, rfl⟩
  rw [hHA] at hI hix
  have HT : Hid (w.rangeAt 10 0 cz) := hT
  have HI : Hid _ := hI
  have HH : Hid (cz.toArray = HA) := hHA
  have HIX : Hid _ := hix
  have e2 := (hE.1 8 (by decide)).1
  simp only [eblk] at e2
  have HX : Hid (x.size ≠ 0) := hx
  clear hI hHA hcz hT hix hE hx
  go_enter Tryd.func118, Tryd.ntmps118
  go_upto_region 2 with (with_reducible refine at_list ?_; refine wpList_load_midA rfl 172 (.global 10) rfl 10 0 rfl cz HA HH.out _ HT.out Tryd.underlying172 rfl HI.out ?_)
  go_loopw [6] (fun v6 wr => ∃ i : Nat, i ≤ 8 ∧ v6 = .int .i64 i ∧ (∀ j : Nat, j < i → wrd (j : Int) ≠ x) ∧ wr = w) (fun v _ => 8 - (intOf v).toNat)
  case atStart => exact ⟨0, Nat.zero_le _, rfl, fun j hj => by omega, rfl⟩
  case round =>
    obtain ⟨i, hi, rfl, hall, rfl⟩ := hrel
    by_cases hlt : i < 8
    · have b1 : (i : Int) < 8 := by omega
      have hx1 := HIX.out i hlt
      obtain ⟨y, hy⟩ : ∃ y, wrd (i : Int) = y := ⟨_, rfl⟩
      rw [hy] at hx1
      by_cases he : x = y
      · have HR : Hid (tokO x 7 = i ∧ i ≠ 0) := by
          have hi0 : i ≠ 0 := fun h0 => by
            apply HX.out
            rw [he, ← hy, h0]
            rfl
          exact ⟨tokO_hit x i hlt (by omega) (by rw [hy, he]) 7 (by omega) (by omega), hi0⟩
        clear hall hi hy
        subst he
        go_wp2
        go_ret
        refine ⟨rfl, ?_⟩
        rw [HR.out.1, if_neg HR.out.2]
        rfl
      · have hne : ¬ y = x := fun e => he e.symm
        have HA2 : Hid (∀ j : Nat, j < i + 1 → wrd (j : Int) ≠ x) := fun j hj => by
          by_cases hji : j = i
          · rw [hji, hy]; exact hne
          · exact hall j (by omega)
        have hbl : (x.toList == y.toList) = false := by
          rw [Go.ByteArray.toList_eq, Go.ByteArray.toList_eq]
          simp only [beq_eq_false_iff_ne, ne_eq]
          exact fun e => he (toL_inj e)
        clear hall hi hy
        go_wp2
        exact ⟨⟨i + 1, hlt, congrArg (Value.int .i64) (by omega), HA2.out, trivial⟩, by show 8 - ((i : Int) + 1).toNat < 8 - ((i : Int)).toNat; omega⟩
    · have b1 : ¬ (i : Int) < 8 := by omega
      have HR : Hid (tokO x 7 = 0) := tokO_miss x (fun j _ hj => hall j (by omega)) 7 (by omega)
      clear hall hi
      go_wp2
      refine ⟨rfl, rfl, ?_⟩
      rw [HR.out]
      rfl
end Go.Proofs.YtjhleocpipmklaaDoor
namespace Go.Proofs.YtjhleocpipmklaaDoor
set_option linter.unusedSimpArgs false
set_option linter.unusedVariables false
set_option maxRecDepth 100000
open Go.ChangeShapes Go.WideShapes Go.ChangeAt Go.RowKit Go.Pin Go.Pat Go.Deep
def TokP (ea : Int → Addr) (r : Nat) (l : List UInt8) (w : World) (e : Ending) (w' : World) : Prop :=
  Up r w w' ∧ match tokL l with
    | none => e = PN ea
    | some (t, rest) => e = .returned (.int .i64 t) ∧ RB r rest w'
set_option maxHeartbeats 4000000 in
theorem token_any' {ea : Int → Addr} (r : Nat) (l : List UInt8) (hl : l.length ≤ 4096) (w : World) (hE : Errs ea w) (h : RB r l w) :
    Calls Tryd.prog 116 #[.pointer (some ⟨r, 0, none⟩)] w (TokP ea r l w) := by
  have hle := ctb_le lw l
  have hsz := bl_size l
  have hc := h.c
  have hf := h.f
  obtain ⟨s, hs⟩ : ∃ s, bl l = s := ⟨_, rfl⟩
  obtain ⟨L, hL⟩ : ∃ L, l.length = L := ⟨_, rfl⟩
  rw [hs] at hc hsz
  rw [hL] at hle hsz hl
  have HS : Hid (bl l = s ∧ l.length = L ∧ ctb lw l ≤ L) := ⟨hs, hL, hle⟩
  have HR : Hid (RB r l w) := h
  have HE : Hid (Errs ea w) := hE
  have bL : (L : Int) ≤ 4096 := by omega
  clear h hE hs hL hle
  go_enter Tryd.func116, Tryd.ntmps116
  go_wp2
  go_loopw [3] (fun v3 wr => ∃ i : Nat, i ≤ ctb lw l ∧ v3 = .int .i64 i ∧ wr = w) (fun v _ => L - (intOf v).toNat)
  case atStart => exact ⟨0, Nat.zero_le _, rfl, rfl⟩
  case round =>
    obtain ⟨i, hi, rfl, rfl⟩ := hrel
    have hmore : i < L → ∀ h : i < l.length, (lw l[i] = true → i + 1 ≤ ctb lw l) ∧ (lw l[i] = false → i = ctb lw l) := fun _ h => ctb_at lw l i h hi
    by_cases hlt : i < L ∧ ∃ h : i < l.length, lw l[i] = true
    · obtain ⟨hlt, hil, hb⟩ := hlt
      have b1 : (i : Int) < (L : Int) := by omega
      have HK : Hid (i + 1 ≤ ctb lw l) := (hmore hlt hil).1 hb
      have hsi : i < s.size := by omega
      have ei : s[i] = l[i] := by
        have := HS.out.1
        subst this
        rfl
      have CN := fun y => inWord_any s[i] y
      rw [ei, hb] at CN
      rw [← ei] at CN
      clear hmore hb hi hil ei
      go_wp2_with (go_at_call 117; refine (CN _).mono ?_; rintro e w' ⟨rfl, rfl⟩)
      exact ⟨⟨i + 1, HK.out, congrArg (Value.int .i64) (by omega), trivial⟩, by show L - ((i : Int) + 1).toNat < L - ((i : Int)).toNat; omega⟩
    · have hiN : i = ctb lw l := by
        by_cases h1 : i < L
        · have hil : i < l.length := by rw [HS.out.2.1]; exact h1
          cases hb : lw l[i] with
          | true => exact absurd ⟨h1, hil, hb⟩ hlt
          | false => exact (hmore h1 hil).2 hb
        · have := HS.out.2.2; omega
      by_cases h1 : i < L
      · have b1 : (i : Int) < (L : Int) := by omega
        have hil : i < l.length := by rw [HS.out.2.1]; exact h1
        have hb : lw l[i] = false := by
          cases hb : lw l[i] with
          | true => exact absurd ⟨h1, hil, hb⟩ hlt
          | false => rfl
        have hsi : i < s.size := by omega
        have ei : s[i] = l[i] := by
          have := HS.out.1
          subst this
          rfl
        have CN := fun y => inWord_any s[i] y
        rw [ei, hb] at CN
        rw [← ei] at CN
        clear hmore hb ei hlt
        by_cases hn0 : i = 0
        · have HT : Hid (tokL l = none) := by
            show tokL l = none
            unfold tokL
            rw [← hiN, if_pos hn0]
          have CM := must_no _ HE.out
          have g0 : ¬ (0 : Int) < (i : Int) := by omega
          have g0' : ¬ 0 < i := by omega
          clear hn0 hiN hi
          go_wp2_with (first
              | (go_at_call 117; refine (CN _).mono ?_; rintro e w' ⟨rfl, rfl⟩)
              | (go_at_call 103; refine CM.mono ?_; rintro e w2 ⟨rfl, rfl⟩))
          refine ⟨rfl, Up.refl _ _, ?_⟩
          rw [HT.out]
        · have g0 : (0 : Int) < (i : Int) := by omega
          have g0' : 0 < i := by omega
          have giL : (i : Int) ≤ (L : Int) := by have := HS.out.2.2; omega
          have e0 := bl_ext0 l i
          have e1 := bl_ext1 l i
          rw [HS.out.1] at e0 e1
          rw [hsz] at e1
          have hset := HR.out.set (l.drop i)
          have hxz : (bl (l.take i)).size ≠ 0 := by rw [bl_size, List.length_take, HS.out.2.1]; omega
          have CT := tokenOf_any (ea := ea) (bl (l.take i)) hxz _ HE.out
          have CM := fun y => must_yes y
          have htok : tokL l = if tokO (bl (l.take i)) 7 = 0 then none else some ((tokO (bl (l.take i)) 7 : Int), l.drop i) := by
            unfold tokL
            rw [← hiN, if_neg hn0]
            rfl
          unfold TkP at CT
          obtain ⟨a, ha⟩ : ∃ s, bl (l.take i) = s := ⟨_, rfl⟩
          obtain ⟨b, hb⟩ : ∃ s, bl (l.drop i) = s := ⟨_, rfl⟩
          rw [ha] at e0 CT htok
          rw [hb] at e1 hset
          have HSET : Hid _ := hset
          have HTK : Hid _ := htok
          clear hset htok hn0 hiN hi ha hb hxz
          by_cases htz : tokO a 7 = 0
          · have HT : Hid (tokL l = none) := by show tokL l = none; rw [HTK.out, if_pos htz]
            simp only [htz, if_true] at CT
            clear htz
            go_wp2_with (first
              | (go_at_call 117; refine (CN _).mono ?_; rintro e w' ⟨rfl, rfl⟩)
              | (go_at_call 103; refine (CM _).mono ?_; rintro e w2 ⟨rfl, rfl⟩)
              | (go_at_call 118; (try rw [e0]); refine CT.mono ?_; rintro e w3 ⟨rfl, rfl⟩))
            refine ⟨rfl, Up.refl _ _, ?_⟩
            rw [HT.out]
          · obtain ⟨t, htt⟩ : ∃ t : Nat, tokO a 7 = t := ⟨_, rfl⟩
            have HT : Hid (tokL l = some ((t : Int), l.drop i)) := by show tokL l = _; rw [HTK.out, if_neg htz, htt]
            rw [htt] at CT htz
            simp only [htz, if_false] at CT
            clear htz htt
            go_wp2_with (first
              | (go_at_call 117; refine (CN _).mono ?_; rintro e w' ⟨rfl, rfl⟩)
              | (go_at_call 103; refine (CM _).mono ?_; rintro e w2 ⟨rfl, rfl⟩)
              | (go_at_call 118; (try rw [e0]); refine CT.mono ?_; rintro e w3 ⟨rfl, rfl⟩))
            go_ret
            refine ⟨(Up.refl _ _).set 0 _, ?_⟩
            rw [HT.out]
            exact ⟨rfl, HSET.out⟩
      · have b1 : ¬ (i : Int) < (L : Int) := by omega
        clear hmore hlt
        by_cases hn0 : i = 0
        · have HT : Hid (tokL l = none) := by
            show tokL l = none
            unfold tokL
            rw [← hiN, if_pos hn0]
          have CM := must_no _ HE.out
          have g0 : ¬ (0 : Int) < (i : Int) := by omega
          have g0' : ¬ 0 < i := by omega
          clear hn0 hiN hi
          go_wp2_with (first
              | (go_at_call 103; refine CM.mono ?_; rintro e w2 ⟨rfl, rfl⟩))
          refine ⟨rfl, Up.refl _ _, ?_⟩
          rw [HT.out]
        · have g0 : (0 : Int) < (i : Int) := by omega
          have g0' : 0 < i := by omega
          have giL : (i : Int) ≤ (L : Int) := by have := HS.out.2.2; omega
          have e0 := bl_ext0 l i
          have e1 := bl_ext1 l i
          rw [HS.out.1] at e0 e1
          rw [hsz] at e1
          have hset := HR.out.set (l.drop i)
          have hxz : (bl (l.take i)).size ≠ 0 := by rw [bl_size, List.length_take, HS.out.2.1]; omega
          have CT := tokenOf_any (ea := ea) (bl (l.take i)) hxz _ HE.out
          have CM := fun y => must_yes y
          have htok : tokL l = if tokO (bl (l.take i)) 7 = 0 then none else some ((tokO (bl (l.take i)) 7 : Int), l.drop i) := by
            unfold tokL
            rw [← hiN, if_neg hn0]
            rfl
          unfold TkP at CT
          obtain ⟨a, ha⟩ : ∃ s, bl (l.take i) = s := ⟨_, rfl⟩
          obtain ⟨b, hb⟩ : ∃ s, bl (l.drop i) = s := ⟨_, rfl⟩
          rw [ha] at e0 CT htok
          rw [hb] at e1 hset
          have HSET : Hid _ := hset
          have HTK : Hid _ := htok
          clear hset htok hn0 hiN hi ha hb hxz
          by_cases htz : tokO a 7 = 0
          · have HT : Hid (tokL l = none) := by show tokL l = none; rw [HTK.out, if_pos htz]
            simp only [htz, if_true] at CT
            clear htz
            go_wp2_with (first
              | (go_at_call 103; refine (CM _).mono ?_; rintro e w2 ⟨rfl, rfl⟩)
              | (go_at_call 118; (try rw [e0]); refine CT.mono ?_; rintro e w3 ⟨rfl, rfl⟩))
            refine ⟨rfl, Up.refl _ _, ?_⟩
            rw [HT.out]
          · obtain ⟨t, htt⟩ : ∃ t : Nat, tokO a 7 = t := ⟨_, rfl⟩
            have HT : Hid (tokL l = some ((t : Int), l.drop i)) := by show tokL l = _; rw [HTK.out, if_neg htz, htt]
            rw [htt] at CT htz
            simp only [htz, if_false] at CT
            clear htz htt
            go_wp2_with (first
              | (go_at_call 103; refine (CM _).mono ?_; rintro e w2 ⟨rfl, rfl⟩)
              | (go_at_call 118; (try rw [e0]); refine CT.mono ?_; rintro e w3 ⟨rfl, rfl⟩))
            go_ret
            refine ⟨(Up.refl _ _).set 0 _, ?_⟩
            rw [HT.out]
            exact ⟨rfl, HSET.out⟩
end Go.Proofs.YtjhleocpipmklaaDoor
namespace Go.Proofs.YtjhleocpipmklaaDoor
set_option linter.unusedSimpArgs false
set_option linter.unusedVariables false
set_option maxRecDepth 100000
open Go.ChangeShapes Go.WideShapes Go.ChangeAt Go.RowKit Go.Pin Go.Pat Go.Deep
theorem Up.on {r q : Nat} {a w w' : World} (h : Up r a w) (hb : Below q w w') (hq : a.heap.size ≤ q) : Up r a w' :=
  ⟨hb.os.trans h.os, hb.tape.trans h.tape, hb.output.trans h.output, Nat.le_trans h.size hb.size, fun k hk hr => (hb.block k (by omega)).trans (h.block k hk hr)⟩
theorem RB.on {r q : Nat} {l : List UInt8} {w w' : World} (h : RB r l w) (hb : Below q w w') (hq : r < q) : RB r l w' := (hb.block r hq).trans h
theorem owns_up {r : Nat} {w w' : World} (hb : Up r w w') {b : Nat} {e : TypeId} {size : Nat} {v : Value} {n : Nat} {xs : List Value} (hr : r < b) (ho : w.ownsRow b e size v n xs) : w'.ownsRow b e size v n xs := by
  refine ⟨ho.1, ?_⟩
  rcases ho.2 with h0 | ⟨g, cap, cur, rfl, h1, hg, hr2⟩
  · exact .inl h0
  · exact .inr ⟨g, cap, cur, rfl, h1, (hb.block g (Array.getElem?_eq_some_iff.1 hg).1 (by omega)).trans hg, hr2⟩
def vlen : Value → Nat
  | .slice _ n _ => n
  | _ => 0
def TksP (ea : Int → Addr) (r : Nat) (l : List UInt8) (w : World) (e : Ending) (w' : World) : Prop :=
  Up r w w' ∧ match toksL l with
    | none => e = PN ea
    | some (ts, rest) => ∃ v, e = .returned v ∧ w'.ownsRow w.heap.size 3 1 v ts.length (ts.map (Value.int .i64)) ∧ RB r rest w'
/-- a row's tokens, when some of them are read -/
def tksF (T : List Int) (r1 : List UInt8) : Option (List Int × List UInt8) :=
  match moreL r1 with
  | none => none
  | some (ts, r') => if pfx [10] r' then some (T ++ ts, r'.drop 1) else none
theorem tksF_yes {T : List Int} {r1 r2 : List UInt8} {t : Int} (h : pfx [44, 32] r1 = true) (ht : tokL (r1.drop 2) = some (t, r2)) : tksF T r1 = tksF (T ++ [t]) r2 := by
  unfold tksF
  rw [moreL_yes h, ht]
  simp only
  cases moreL r2 with
  | none => rfl
  | some x =>
    obtain ⟨ts, r'⟩ := x
    simp
theorem tksF_none {T : List Int} {r1 : List UInt8} (h : pfx [44, 32] r1 = true) (ht : tokL (r1.drop 2) = none) : tksF T r1 = none := by
  unfold tksF
  rw [moreL_yes h, ht]
theorem tksF_no {T : List Int} {r1 : List UInt8} (h : pfx [44, 32] r1 = false) : tksF T r1 = if pfx [10] r1 then some (T, r1.drop 1) else none := by
  unfold tksF
  rw [moreL_no h]
  simp
theorem toksL_F {l r1 : List UInt8} {t : Int} (ht : tokL l = some (t, r1)) : toksL l = tksF [t] r1 := by
  unfold toksL tksF
  rw [ht]
  simp only
  cases moreL r1 with
  | none => rfl
  | some x => rfl
set_option maxHeartbeats 4000000 in
theorem tokens_any' {ea : Int → Addr} (r : Nat) (l : List UInt8) (hl : l.length ≤ 4096) (w : World) (hE : ∀ y, Up r w y → Errs ea y) (h : RB r l w) :
    Calls Tryd.prog 113 #[.pointer (some ⟨r, 0, none⟩)] w (TksP ea r l w) := by
  have CT := token_any' r l hl w (hE w (Up.refl _ _)) h
  obtain ⟨q, hq⟩ : ∃ q, w.heap.size = q := ⟨_, rfl⟩
  have hrq : r < q := by have := h.lt; omega
  unfold TokP at CT
  cases ht : tokL l with
  | none =>
    have HR : Hid (toksL l = none) := by show toksL l = none; unfold toksL; rw [ht]
    simp only [ht] at CT
    have HCT : Hid _ := CT
    clear CT ht h
    go_enter Tryd.func113, Tryd.ntmps113
    go_wp2_with (go_at_call 116; refine Calls.mono HCT.out ?_; rintro e w1 ⟨h1, rfl⟩; have H1 : Hid (Up r w w1) := h1; clear h1)
    refine ⟨rfl, H1.out, ?_⟩
    rw [HR.out]
  | some x =>
    obtain ⟨t, r1⟩ := x
    have hF := toksL_F ht
    have hlen := (tokL_bck ht).2.2
    simp only [ht] at CT
    have HCT : Hid _ := CT
    have HE : Hid (∀ y, Up r w y → Errs ea y) := hE
    have HF : Hid (toksL l = tksF [t] r1 ∧ r1.length < l.length ∧ l.length ≤ 4096) := ⟨hF, hlen, hl⟩
    have HQ : Hid (w.heap.size = q ∧ r < q) := ⟨hq, hrq⟩
    clear CT ht h hE hF hlen hl hrq
    go_enter Tryd.func113, Tryd.ntmps113
    go_wp2_with (go_at_call 116; refine Calls.mono HCT.out ?_; rintro e w1 ⟨h1, rfl, h2⟩; have H1 : Hid (Up r w w1 ∧ RB r r1 w1) := ⟨h1, h2⟩; clear h1 h2)
    go_loopw [3] (fun v3 wr => ∃ (T : List Int) (r2 : List UInt8), wr.ownsRow q 3 1 v3 T.length (T.map (Value.int .i64)) ∧ RB r r2 wr ∧ Up r w wr ∧ toksL l = tksF T r2 ∧ T.length + r2.length ≤ 4096) (fun v _ => 5000 - vlen v)
    case atStart =>
      have hal : Below w1.heap.size w1 (w1.alloc (.cells #[.int .i64 t] 3)) := (Below.refl _ _).alloc (Nat.le_refl _) _
      have hqs : q ≤ w1.heap.size := by have := H1.out.1.size; have := HQ.out.1; omega
      refine ⟨[t], r1, ⟨rfl, .inr ⟨w1.heap.size, 1, #[.int .i64 t], rfl, hqs, heap_alloc_new _ _, Nat.le_refl _, by unfold maxLen; decide, rfl, rfl⟩⟩, H1.out.2.below hal, H1.out.1.trans (Up.of hal), HF.out.1, ?_⟩
      have := HF.out.2
      show 1 + _ ≤ _
      omega
    case round =>
      obtain ⟨T, r2, hown, hrb, hup, htk, hle⟩ := hrel
      have CK := take_any r r2 ⟨#[44, 32]⟩ wr hrb
      rw [show toL ⟨#[44, 32]⟩ = [44, 32] from rfl] at CK
      obtain ⟨a, cap, rfl⟩ := own_slice' hown
      have HO : Hid (wr.ownsRow q 3 1 (.slice a T.length cap) T.length (T.map (Value.int .i64))) := hown
      have HU : Hid (Up r w wr ∧ T.length + r2.length ≤ 4096) := ⟨hup, hle⟩
      cases hp : pfx [44, 32] r2 with
      | true =>
        have etk : tke [44, 32] r2 = r2.drop 2 := by unfold tke; rw [hp]; rfl
        rw [hp, etk] at CK
        have hl2 : (r2.drop 2).length + 2 ≤ r2.length := by
          have := congrArg List.length (pfx_true hp)
          rw [List.length_append] at this
          have e2 : ([44, 32] : List UInt8).length = 2 := rfl
          rw [e2] at this
          omega
        have CT : ∀ y, Up r w y → RB r (r2.drop 2) y → Calls Tryd.prog 116 #[.pointer (some ⟨r, 0, none⟩)] y (TokP ea r (r2.drop 2) y) := fun y hy hb => token_any' r _ (by omega) y (HE.out y hy) hb
        unfold TokP at CT
        cases ht : tokL (r2.drop 2) with
        | none =>
          have HR : Hid (toksL l = none) := by show toksL l = none; rw [htk]; exact tksF_none hp ht
          simp only [ht] at CT
          have HCT : Hid _ := CT
          have HCK : Hid _ := CK
          clear CT CK ht hp etk htk hown hrb hup hle hl2
          go_wp2_with (first
            | (go_at_call 101; refine Calls.mono HCK.out ?_; rintro e w2 ⟨rfl, h1, h2⟩; have H2 : Hid (RB r (r2.drop 2) w2 ∧ Up r w w2) := ⟨h1, HU.out.1.trans h2⟩; clear h1 h2)
            | (go_at_call 116; refine (HCT.out _ H2.out.2 H2.out.1).mono ?_; rintro e w3 ⟨h1, rfl⟩; have H3 : Hid (Up r w w3) := H2.out.2.trans h1; clear h1))
          refine ⟨rfl, H3.out, ?_⟩
          rw [HR.out]
        | some x =>
          obtain ⟨u, r3⟩ := x
          have HR : Hid (toksL l = tksF (T ++ [u]) r3 ∧ r3.length < (r2.drop 2).length ∧ (r2.drop 2).length + 2 ≤ r2.length) := ⟨by rw [htk]; exact tksF_yes hp ht, (tokL_bck ht).2.2, hl2⟩
          simp only [ht] at CT
          have HCT : Hid _ := CT
          have HCK : Hid _ := CK
          clear CT CK ht hp etk htk hown hrb hup hle hl2
          go_upto_region 3 with (go_at_call 101; refine Calls.mono HCK.out ?_; rintro e w2 ⟨rfl, h1, h2⟩; have H2 : Hid (RB r (r2.drop 2) w2 ∧ Up r w w2 ∧ w2.ownsRow q 3 1 (.slice a T.length cap) T.length (T.map (Value.int .i64))) := ⟨h1, HU.out.1.trans h2, owns_up h2 HQ.out.2 HO.out⟩; clear h1 h2)
          have HAP : Hid (∀ y, RB r r3 y → Up r w y → y.ownsRow q 3 1 (.slice a T.length cap) T.length (T.map (Value.int .i64)) → ∀ ty, ∃ v' w', (Builtin.append_ #[22, 22] ty #[.slice a T.length cap, .slice (some ⟨y.heap.size, 0, none⟩) 1 1]).run Tryd.prog (y.alloc (.cells #[.int .i64 u] 3)) = .ok v' w' ∧ (w'.ownsRow q 3 1 v' (T ++ [u]).length ((T ++ [u]).map (Value.int .i64)) ∧ RB r r3 w' ∧ Up r w w')) := fun y h1 h2 h3 ty => by
            have hal : Below y.heap.size y (y.alloc (.cells #[.int .i64 u] 3)) := (Below.refl _ _).alloc (Nat.le_refl _) _
            have hqs : q ≤ y.heap.size := by have := h2.size; have := HQ.out.1; omega
            have ho := owns_below hal h3
            obtain ⟨v', w', k1, k2, k3, k4⟩ := own_app Tryd.underlying22 parts_int rfl (by decide) ho (news := [.int .i64 u]) (heap_alloc_new _ _) rfl (fun x hx => by simp at hx; subst hx; rfl) (by have := HU.out.2; omega) (by have := HU.out.2; omega) (by rw [size_alloc]; omega) ty
            have hbl : Below q (y.alloc (.cells #[.int .i64 u] 3)) w' := (Below.refl _ _).grown k3 (by rw [size_alloc]; omega) (fun k hk => (ho.lt k hk).1)
            refine ⟨v', w', k1, ?_, (h1.below hal).on hbl HQ.out.2, (h2.trans (Up.of hal)).on hbl (by rw [HQ.out.1]; exact Nat.le_refl _)⟩
            rw [List.length_append, List.map_append]
            exact k2
          go_wp2_with (first
            | (go_at_call 116; refine (HCT.out _ H2.out.2.1 H2.out.1).mono ?_; rintro e w3 ⟨h1, rfl, h2⟩; have H3 : Hid (RB r r3 w3 ∧ Up r w w3 ∧ w3.ownsRow q 3 1 (.slice a T.length cap) T.length (T.map (Value.int .i64))) := ⟨h2, H2.out.2.1.trans h1, owns_up h1 HQ.out.2 H2.out.2.2⟩; clear h1 h2)
            | (at_builtin; go_loud (refine wpList_app _ rfl (.tmp 9) (.tmp 12) 22 22 rfl _ _ rfl rfl (HAP.out w3 H3.out.1 H3.out.2.1 H3.out.2.2) ?_; rintro v' w4 ⟨h1, h2, h3⟩; have H4 : Hid (w4.ownsRow q 3 1 v' (T ++ [u]).length ((T ++ [u]).map (Value.int .i64)) ∧ RB r r3 w4 ∧ Up r w w4) := ⟨h1, h2, h3⟩; clear h1 h2 h3)))
          obtain ⟨a', cap', rfl⟩ := own_slice' H4.out.1
          refine ⟨⟨T ++ [u], r3, H4.out.1, H4.out.2.1, H4.out.2.2, HR.out.1, ?_⟩, ?_⟩
          · have := HR.out.2; have := HU.out.2; rw [List.length_append]; simp only [List.length_cons, List.length_nil]; omega
          · have := HU.out.2; show 5000 - (T ++ [u]).length < 5000 - T.length; rw [List.length_append]; simp only [List.length_cons, List.length_nil]; omega
      | false =>
        have etk : tke [44, 32] r2 = r2 := by unfold tke; rw [hp]; rfl
        rw [hp, etk] at CK
        have hno := tksF_no (T := T) hp
        cases hp2 : pfx [10] r2 with
        | true =>
          have HR : Hid (toksL l = some (T, r2.drop 1)) := by show toksL l = _; rw [htk, hno, hp2]; rfl
          have HCK : Hid _ := CK
          have HCW : Hid (∀ y, RB r r2 y → Calls Tryd.prog 99 #[.pointer (some ⟨r, 0, none⟩), .string ⟨#[10]⟩] y fun e w' => e = .returned (.tuple #[]) ∧ RB r (r2.drop 1) w' ∧ Up r y w') := fun y hy => want_yes r r2 ⟨#[10]⟩ y hy hp2
          clear CK hp hp2 etk htk hno hown hrb hup hle
          go_wp2_with (first
            | (go_at_call 101; refine Calls.mono HCK.out ?_; rintro e w2 ⟨rfl, h1, h2⟩; have H2 : Hid (RB r r2 w2 ∧ Up r w w2 ∧ w2.ownsRow q 3 1 (.slice a T.length cap) T.length (T.map (Value.int .i64))) := ⟨h1, HU.out.1.trans h2, owns_up h2 HQ.out.2 HO.out⟩; clear h1 h2)
            | (go_at_call 99; refine (HCW.out _ H2.out.1).mono ?_; rintro e w3 ⟨rfl, h1, h2⟩; have H3 : Hid (RB r (r2.drop 1) w3 ∧ Up r w w3 ∧ w3.ownsRow q 3 1 (.slice a T.length cap) T.length (T.map (Value.int .i64))) := ⟨h1, H2.out.2.1.trans h2, owns_up h2 HQ.out.2 H2.out.2.2⟩; clear h1 h2))
          go_ret
          refine ⟨H3.out.2.1, ?_⟩
          rw [HR.out]
          exact ⟨_, rfl, by rw [HQ.out.1]; exact H3.out.2.2, H3.out.1⟩
        | false =>
          have HR : Hid (toksL l = none) := by show toksL l = _; rw [htk, hno, hp2]; rfl
          have HCK : Hid _ := CK
          have HCW : Hid (∀ y, RB r r2 y → Up r w y → Calls Tryd.prog 99 #[.pointer (some ⟨r, 0, none⟩), .string ⟨#[10]⟩] y fun e w' => e = PN ea ∧ Up r y w') := fun y hy hu => want_no r r2 ⟨#[10]⟩ y (fun z hz => HE.out z (hu.trans hz)) hy hp2
          clear CK hp hp2 etk htk hno hown hrb hup hle
          go_wp2_with (first
            | (go_at_call 101; refine Calls.mono HCK.out ?_; rintro e w2 ⟨rfl, h1, h2⟩; have H2 : Hid (RB r r2 w2 ∧ Up r w w2) := ⟨h1, HU.out.1.trans h2⟩; clear h1 h2)
            | (go_at_call 99; refine (HCW.out _ H2.out.1 H2.out.2).mono ?_; rintro e w3 ⟨rfl, h2⟩; have H3 : Hid (Up r w w3) := H2.out.2.trans h2; clear h2))
          refine ⟨rfl, H3.out, ?_⟩
          rw [HR.out]
end Go.Proofs.YtjhleocpipmklaaDoor
