import Derived.Test.YtpfidohkohldaaaGreatDoorMqao
namespace Go.Proofs.YtpfidohkohldaaaGreatDoor
set_option linter.unusedSimpArgs false
set_option linter.unusedVariables false
set_option maxRecDepth 100000
open Go.ChangeShapes Go.WideShapes Go.ChangeAt Go.RowKit Go.Pin Go.Pat Go.Deep
def TokP (ea : Int → Addr) (r : Nat) (l : List UInt8) (w : World) (e : Ending) (w' : World) : Prop :=
  Up r w w' ∧ match tokL l with
    | none => e = PN ea
    | some (t, rest) => e = .returned (.int .i64 t) ∧ RB r rest w'
set_option maxHeartbeats 4000000 in
theorem token_any' {ea : Int → Addr} (r : Nat) (l : List UInt8) (hl : l.length ≤ 4096) (w : World) (hE : Errs ea w) (h : RB r l w) :
    Calls Tryz.prog 77 #[.pointer (some ⟨r, 0, none⟩)] w (TokP ea r l w) := by
  have hle := ctb_le lw l
  have hsz := bl_size l
  have hc := h.c
  have hf := h.f
  obtain ⟨s, hs⟩ : ∃ s, bl l = s := ⟨_, rfl⟩
  obtain ⟨L, hL⟩ : ∃ L, l.length = L := ⟨_, rfl⟩
  rw [hs] at hc hsz
  rw [hL] at hle hsz hl
  have HS : Hid (bl l = s ∧ l.length = L ∧ ctb lw l ≤ L) := ⟨hs, hL, hle⟩
  have HR : Hid (RB r l w) := h
  have HE : Hid (Errs ea w) := hE
  have bL : (L : Int) ≤ 4096 := by omega
  clear h hE hs hL hle
  go_enter Tryz.func77, Tryz.ntmps77
  go_wp2
  go_loopw [3] (fun v3 wr => ∃ i : Nat, i ≤ ctb lw l ∧ v3 = .int .i64 i ∧ wr = w) (fun v _ => L - (intOf v).toNat)
  case atStart => exact ⟨0, Nat.zero_le _, rfl, rfl⟩
  case round =>
    obtain ⟨i, hi, rfl, rfl⟩ := hrel
    have hmore : i < L → ∀ h : i < l.length, (lw l[i] = true → i + 1 ≤ ctb lw l) ∧ (lw l[i] = false → i = ctb lw l) := fun _ h => ctb_at lw l i h hi
    by_cases hlt : i < L ∧ ∃ h : i < l.length, lw l[i] = true
    · obtain ⟨hlt, hil, hb⟩ := hlt
      have b1 : (i : Int) < (L : Int) := by omega
      have HK : Hid (i + 1 ≤ ctb lw l) := (hmore hlt hil).1 hb
      have hsi : i < s.size := by omega
      have ei : s[i] = l[i] := by
        have := HS.out.1
        subst this
        rfl
      have CN := fun y => inWord_any s[i] y
      rw [ei, hb] at CN
      rw [← ei] at CN
      clear hmore hb hi hil ei
      go_wp2_with (go_at_call 80; refine (CN _).mono ?_; rintro e w' ⟨rfl, rfl⟩)
      exact ⟨⟨i + 1, HK.out, congrArg (Value.int .i64) (by omega), trivial⟩, by show L - ((i : Int) + 1).toNat < L - ((i : Int)).toNat; omega⟩
    · have hiN : i = ctb lw l := by
        by_cases h1 : i < L
        · have hil : i < l.length := by rw [HS.out.2.1]; exact h1
          cases hb : lw l[i] with
          | true => exact absurd ⟨h1, hil, hb⟩ hlt
          | false => exact (hmore h1 hil).2 hb
        · have := HS.out.2.2; omega
      by_cases h1 : i < L
      · have b1 : (i : Int) < (L : Int) := by omega
        have hil : i < l.length := by rw [HS.out.2.1]; exact h1
        have hb : lw l[i] = false := by
          cases hb : lw l[i] with
          | true => exact absurd ⟨h1, hil, hb⟩ hlt
          | false => rfl
        have hsi : i < s.size := by omega
        have ei : s[i] = l[i] := by
          have := HS.out.1
          subst this
          rfl
        have CN := fun y => inWord_any s[i] y
        rw [ei, hb] at CN
        rw [← ei] at CN
        clear hmore hb ei hlt
        by_cases hn0 : i = 0
        · have HT : Hid (tokL l = none) := by
            show tokL l = none
            unfold tokL
            rw [← hiN, if_pos hn0]
          have CM := must_no _ HE.out
          have g0 : ¬ (0 : Int) < (i : Int) := by omega
          have g0' : ¬ 0 < i := by omega
          clear hn0 hiN hi
          go_wp2_with (first
              | (go_at_call 80; refine (CN _).mono ?_; rintro e w' ⟨rfl, rfl⟩)
              | (go_at_call 45; refine CM.mono ?_; rintro e w2 ⟨rfl, rfl⟩))
          refine ⟨rfl, Up.refl _ _, ?_⟩
          rw [HT.out]
        · have g0 : (0 : Int) < (i : Int) := by omega
          have g0' : 0 < i := by omega
          have giL : (i : Int) ≤ (L : Int) := by have := HS.out.2.2; omega
          have e0 := bl_ext0 l i
          have e1 := bl_ext1 l i
          rw [HS.out.1] at e0 e1
          rw [hsz] at e1
          have hset := HR.out.set (l.drop i)
          have hxz : (bl (l.take i)).size ≠ 0 := by rw [bl_size, List.length_take, HS.out.2.1]; omega
          have CT := tokenOf_any (ea := ea) (bl (l.take i)) hxz _ HE.out
          have CM := fun y => must_yes y
          have htok : tokL l = if tokO (bl (l.take i)) 7 = 0 then none else some ((tokO (bl (l.take i)) 7 : Int), l.drop i) := by
            unfold tokL
            rw [← hiN, if_neg hn0]
            rfl
          unfold TkP at CT
          obtain ⟨a, ha⟩ : ∃ s, bl (l.take i) = s := ⟨_, rfl⟩
          obtain ⟨b, hb⟩ : ∃ s, bl (l.drop i) = s := ⟨_, rfl⟩
          rw [ha] at e0 CT htok
          rw [hb] at e1 hset
          have HSET : Hid _ := hset
          have HTK : Hid _ := htok
          clear hset htok hn0 hiN hi ha hb hxz
          by_cases htz : tokO a 7 = 0
          · have HT : Hid (tokL l = none) := by show tokL l = none; rw [HTK.out, if_pos htz]
            simp only [htz, if_true] at CT
            clear htz
            go_wp2_with (first
              | (go_at_call 80; refine (CN _).mono ?_; rintro e w' ⟨rfl, rfl⟩)
              | (go_at_call 45; refine (CM _).mono ?_; rintro e w2 ⟨rfl, rfl⟩)
              | (go_at_call 103; (try rw [e0]); refine CT.mono ?_; rintro e w3 ⟨rfl, rfl⟩))
            refine ⟨rfl, Up.refl _ _, ?_⟩
            rw [HT.out]
          · obtain ⟨t, htt⟩ : ∃ t : Nat, tokO a 7 = t := ⟨_, rfl⟩
            have HT : Hid (tokL l = some ((t : Int), l.drop i)) := by show tokL l = _; rw [HTK.out, if_neg htz, htt]
            rw [htt] at CT htz
            simp only [htz, if_false] at CT
            clear htz htt
            go_wp2_with (first
              | (go_at_call 80; refine (CN _).mono ?_; rintro e w' ⟨rfl, rfl⟩)
              | (go_at_call 45; refine (CM _).mono ?_; rintro e w2 ⟨rfl, rfl⟩)
              | (go_at_call 103; (try rw [e0]); refine CT.mono ?_; rintro e w3 ⟨rfl, rfl⟩))
            go_ret
            refine ⟨(Up.refl _ _).set 0 _, ?_⟩
            rw [HT.out]
            exact ⟨rfl, HSET.out⟩
      · have b1 : ¬ (i : Int) < (L : Int) := by omega
        clear hmore hlt
        by_cases hn0 : i = 0
        · have HT : Hid (tokL l = none) := by
            show tokL l = none
            unfold tokL
            rw [← hiN, if_pos hn0]
          have CM := must_no _ HE.out
          have g0 : ¬ (0 : Int) < (i : Int) := by omega
          have g0' : ¬ 0 < i := by omega
          clear hn0 hiN hi
          go_wp2_with (first
              | (go_at_call 45; refine CM.mono ?_; rintro e w2 ⟨rfl, rfl⟩))
          refine ⟨rfl, Up.refl _ _, ?_⟩
          rw [HT.out]
        · have g0 : (0 : Int) < (i : Int) := by omega
          have g0' : 0 < i := by omega
          have giL : (i : Int) ≤ (L : Int) := by have := HS.out.2.2; omega
          have e0 := bl_ext0 l i
          have e1 := bl_ext1 l i
          rw [HS.out.1] at e0 e1
          rw [hsz] at e1
          have hset := HR.out.set (l.drop i)
          have hxz : (bl (l.take i)).size ≠ 0 := by rw [bl_size, List.length_take, HS.out.2.1]; omega
          have CT := tokenOf_any (ea := ea) (bl (l.take i)) hxz _ HE.out
          have CM := fun y => must_yes y
          have htok : tokL l = if tokO (bl (l.take i)) 7 = 0 then none else some ((tokO (bl (l.take i)) 7 : Int), l.drop i) := by
            unfold tokL
            rw [← hiN, if_neg hn0]
            rfl
          unfold TkP at CT
          obtain ⟨a, ha⟩ : ∃ s, bl (l.take i) = s := ⟨_, rfl⟩
          obtain ⟨b, hb⟩ : ∃ s, bl (l.drop i) = s := ⟨_, rfl⟩
          rw [ha] at e0 CT htok
          rw [hb] at e1 hset
          have HSET : Hid _ := hset
          have HTK : Hid _ := htok
          clear hset htok hn0 hiN hi ha hb hxz
          by_cases htz : tokO a 7 = 0
          · have HT : Hid (tokL l = none) := by show tokL l = none; rw [HTK.out, if_pos htz]
            simp only [htz, if_true] at CT
            clear htz
            go_wp2_with (first
              | (go_at_call 45; refine (CM _).mono ?_; rintro e w2 ⟨rfl, rfl⟩)
              | (go_at_call 103; (try rw [e0]); refine CT.mono ?_; rintro e w3 ⟨rfl, rfl⟩))
            refine ⟨rfl, Up.refl _ _, ?_⟩
            rw [HT.out]
          · obtain ⟨t, htt⟩ : ∃ t : Nat, tokO a 7 = t := ⟨_, rfl⟩
            have HT : Hid (tokL l = some ((t : Int), l.drop i)) := by show tokL l = _; rw [HTK.out, if_neg htz, htt]
            rw [htt] at CT htz
            simp only [htz, if_false] at CT
            clear htz htt
            go_wp2_with (first
              | (go_at_call 45; refine (CM _).mono ?_; rintro e w2 ⟨rfl, rfl⟩)
              | (go_at_call 103; (try rw [e0]); refine CT.mono ?_; rintro e w3 ⟨rfl, rfl⟩))
            go_ret
            refine ⟨(Up.refl _ _).set 0 _, ?_⟩
            rw [HT.out]
            exact ⟨rfl, HSET.out⟩
end Go.Proofs.YtpfidohkohldaaaGreatDoor
namespace Go.Proofs.YtpfidohkohldaaaGreatDoor
set_option linter.unusedSimpArgs false
set_option linter.unusedVariables false
set_option maxRecDepth 100000
open Go.ChangeShapes Go.WideShapes Go.ChangeAt Go.RowKit Go.Pin Go.Pat Go.Deep
theorem Up.on {r q : Nat} {a w w' : World} (h : Up r a w) (hb : Below q w w') (hq : a.heap.size ≤ q) : Up r a w' :=
  ⟨hb.os.trans h.os, hb.tape.trans h.tape, hb.output.trans h.output, Nat.le_trans h.size hb.size, fun k hk hr => (hb.block k (by omega)).trans (h.block k hk hr)⟩
theorem RB.on {r q : Nat} {l : List UInt8} {w w' : World} (h : RB r l w) (hb : Below q w w') (hq : r < q) : RB r l w' := (hb.block r hq).trans h
theorem owns_up {r : Nat} {w w' : World} (hb : Up r w w') {b : Nat} {e : TypeId} {size : Nat} {v : Value} {n : Nat} {xs : List Value} (hr : r < b) (ho : w.ownsRow b e size v n xs) : w'.ownsRow b e size v n xs := by
  refine ⟨ho.1, ?_⟩
  rcases ho.2 with h0 | ⟨g, cap, cur, rfl, h1, hg, hr2⟩
  · exact .inl h0
  · exact .inr ⟨g, cap, cur, rfl, h1, (hb.block g (Array.getElem?_eq_some_iff.1 hg).1 (by omega)).trans hg, hr2⟩
def vlen : Value → Nat
  | .slice _ n _ => n
  | _ => 0
def TksP (ea : Int → Addr) (r : Nat) (l : List UInt8) (w : World) (e : Ending) (w' : World) : Prop :=
  Up r w w' ∧ match toksL l with
    | none => e = PN ea
    | some (ts, rest) => ∃ v, e = .returned v ∧ w'.ownsRow w.heap.size 3 1 v ts.length (ts.map (Value.int .i64)) ∧ RB r rest w'
/-- a row's tokens, when some of them are read -/
def tksF (T : List Int) (r1 : List UInt8) : Option (List Int × List UInt8) :=
  match moreL r1 with
  | none => none
  | some (ts, r') => if pfx [10] r' then some (T ++ ts, r'.drop 1) else none
theorem tksF_yes {T : List Int} {r1 r2 : List UInt8} {t : Int} (h : pfx [44, 32] r1 = true) (ht : tokL (r1.drop 2) = some (t, r2)) : tksF T r1 = tksF (T ++ [t]) r2 := by
  unfold tksF
  rw [moreL_yes h, ht]
  simp only
  cases moreL r2 with
  | none => rfl
  | some x =>
    obtain ⟨ts, r'⟩ := x
    simp
theorem tksF_none {T : List Int} {r1 : List UInt8} (h : pfx [44, 32] r1 = true) (ht : tokL (r1.drop 2) = none) : tksF T r1 = none := by
  unfold tksF
  rw [moreL_yes h, ht]
theorem tksF_no {T : List Int} {r1 : List UInt8} (h : pfx [44, 32] r1 = false) : tksF T r1 = if pfx [10] r1 then some (T, r1.drop 1) else none := by
  unfold tksF
  rw [moreL_no h]
  simp
theorem toksL_F {l r1 : List UInt8} {t : Int} (ht : tokL l = some (t, r1)) : toksL l = tksF [t] r1 := by
  unfold toksL tksF
  rw [ht]
  simp only
  cases moreL r1 with
  | none => rfl
  | some x => rfl
set_option maxHeartbeats 4000000 in
theorem tokens_any' {ea : Int → Addr} (r : Nat) (l : List UInt8) (hl : l.length ≤ 4096) (w : World) (hE : ∀ y, Up r w y → Errs ea y) (h : RB r l w) :
    Calls Tryz.prog 65 #[.pointer (some ⟨r, 0, none⟩)] w (TksP ea r l w) := by
  have CT := token_any' r l hl w (hE w (Up.refl _ _)) h
  obtain ⟨q, hq⟩ : ∃ q, w.heap.size = q := ⟨_, rfl⟩
  have hrq : r < q := by have := h.lt; omega
  unfold TokP at CT
  cases ht : tokL l with
  | none =>
    have HR : Hid (toksL l = none) := by show toksL l = none; unfold toksL; rw [ht]
    simp only [ht] at CT
    have HCT : Hid _ := CT
    clear CT ht h
    go_enter Tryz.func65, Tryz.ntmps65
    go_wp2_with (go_at_call 77; refine Calls.mono HCT.out ?_; rintro e w1 ⟨h1, rfl⟩; have H1 : Hid (Up r w w1) := h1; clear h1)
    refine ⟨rfl, H1.out, ?_⟩
    rw [HR.out]
  | some x =>
    obtain ⟨t, r1⟩ := x
    have hF := toksL_F ht
    have hlen := (tokL_bck ht).2.2
    simp only [ht] at CT
    have HCT : Hid _ := CT
    have HE : Hid (∀ y, Up r w y → Errs ea y) := hE
    have HF : Hid (toksL l = tksF [t] r1 ∧ r1.length < l.length ∧ l.length ≤ 4096) := ⟨hF, hlen, hl⟩
    have HQ : Hid (w.heap.size = q ∧ r < q) := ⟨hq, hrq⟩
    clear CT ht h hE hF hlen hl hrq
    go_enter Tryz.func65, Tryz.ntmps65
    go_wp2_with (go_at_call 77; refine Calls.mono HCT.out ?_; rintro e w1 ⟨h1, rfl, h2⟩; have H1 : Hid (Up r w w1 ∧ RB r r1 w1) := ⟨h1, h2⟩; clear h1 h2)
    go_loopw [3] (fun v3 wr => ∃ (T : List Int) (r2 : List UInt8), wr.ownsRow q 3 1 v3 T.length (T.map (Value.int .i64)) ∧ RB r r2 wr ∧ Up r w wr ∧ toksL l = tksF T r2 ∧ T.length + r2.length ≤ 4096) (fun v _ => 5000 - vlen v)
    case atStart =>
      have hal : Below w1.heap.size w1 (w1.alloc (.cells #[.int .i64 t] 3)) := (Below.refl _ _).alloc (Nat.le_refl _) _
      have hqs : q ≤ w1.heap.size := by have := H1.out.1.size; have := HQ.out.1; omega
      refine ⟨[t], r1, ⟨rfl, .inr ⟨w1.heap.size, 1, #[.int .i64 t], rfl, hqs, heap_alloc_new _ _, Nat.le_refl _, by unfold maxLen; decide, rfl, rfl⟩⟩, H1.out.2.below hal, H1.out.1.trans (Up.of hal), HF.out.1, ?_⟩
      have := HF.out.2
      show 1 + _ ≤ _
      omega
    case round =>
      obtain ⟨T, r2, hown, hrb, hup, htk, hle⟩ := hrel
      have CK := take_any r r2 ⟨#[44, 32]⟩ wr hrb
      rw [show toL ⟨#[44, 32]⟩ = [44, 32] from rfl] at CK
      obtain ⟨a, cap, rfl⟩ := own_slice' hown
      have HO : Hid (wr.ownsRow q 3 1 (.slice a T.length cap) T.length (T.map (Value.int .i64))) := hown
      have HU : Hid (Up r w wr ∧ T.length + r2.length ≤ 4096) := ⟨hup, hle⟩
      cases hp : pfx [44, 32] r2 with
      | true =>
        have etk : tke [44, 32] r2 = r2.drop 2 := by unfold tke; rw [hp]; rfl
        rw [hp, etk] at CK
        have hl2 : (r2.drop 2).length + 2 ≤ r2.length := by
          have := congrArg List.length (pfx_true hp)
          rw [List.length_append] at this
          have e2 : ([44, 32] : List UInt8).length = 2 := rfl
          rw [e2] at this
          omega
        have CT : ∀ y, Up r w y → RB r (r2.drop 2) y → Calls Tryz.prog 77 #[.pointer (some ⟨r, 0, none⟩)] y (TokP ea r (r2.drop 2) y) := fun y hy hb => token_any' r _ (by omega) y (HE.out y hy) hb
        unfold TokP at CT
        cases ht : tokL (r2.drop 2) with
        | none =>
          have HR : Hid (toksL l = none) := by show toksL l = none; rw [htk]; exact tksF_none hp ht
          simp only [ht] at CT
          have HCT : Hid _ := CT
          have HCK : Hid _ := CK
          clear CT CK ht hp etk htk hown hrb hup hle hl2
          go_wp2_with (first
            | (go_at_call 43; refine Calls.mono HCK.out ?_; rintro e w2 ⟨rfl, h1, h2⟩; have H2 : Hid (RB r (r2.drop 2) w2 ∧ Up r w w2) := ⟨h1, HU.out.1.trans h2⟩; clear h1 h2)
            | (go_at_call 77; refine (HCT.out _ H2.out.2 H2.out.1).mono ?_; rintro e w3 ⟨h1, rfl⟩; have H3 : Hid (Up r w w3) := H2.out.2.trans h1; clear h1))
          refine ⟨rfl, H3.out, ?_⟩
          rw [HR.out]
        | some x =>
          obtain ⟨u, r3⟩ := x
          have HR : Hid (toksL l = tksF (T ++ [u]) r3 ∧ r3.length < (r2.drop 2).length ∧ (r2.drop 2).length + 2 ≤ r2.length) := ⟨by rw [htk]; exact tksF_yes hp ht, (tokL_bck ht).2.2, hl2⟩
          simp only [ht] at CT
          have HCT : Hid _ := CT
          have HCK : Hid _ := CK
          clear CT CK ht hp etk htk hown hrb hup hle hl2
          go_upto_region 3 with (go_at_call 43; refine Calls.mono HCK.out ?_; rintro e w2 ⟨rfl, h1, h2⟩; have H2 : Hid (RB r (r2.drop 2) w2 ∧ Up r w w2 ∧ w2.ownsRow q 3 1 (.slice a T.length cap) T.length (T.map (Value.int .i64))) := ⟨h1, HU.out.1.trans h2, owns_up h2 HQ.out.2 HO.out⟩; clear h1 h2)
          have HAP : Hid (∀ y, RB r r3 y → Up r w y → y.ownsRow q 3 1 (.slice a T.length cap) T.length (T.map (Value.int .i64)) → ∀ ty, ∃ v' w', (Builtin.append_ #[22, 22] ty #[.slice a T.length cap, .slice (some ⟨y.heap.size, 0, none⟩) 1 1]).run Tryz.prog (y.alloc (.cells #[.int .i64 u] 3)) = .ok v' w' ∧ (w'.ownsRow q 3 1 v' (T ++ [u]).length ((T ++ [u]).map (Value.int .i64)) ∧ RB r r3 w' ∧ Up r w w')) := fun y h1 h2 h3 ty => by
            have hal : Below y.heap.size y (y.alloc (.cells #[.int .i64 u] 3)) := (Below.refl _ _).alloc (Nat.le_refl _) _
            have hqs : q ≤ y.heap.size := by have := h2.size; have := HQ.out.1; omega
            have ho := owns_below hal h3
            obtain ⟨v', w', k1, k2, k3, k4⟩ := own_app Tryz.underlying22 parts_int rfl (by decide) ho (news := [.int .i64 u]) (heap_alloc_new _ _) rfl (fun x hx => by simp at hx; subst hx; rfl) (by have := HU.out.2; omega) (by have := HU.out.2; omega) (by rw [size_alloc]; omega) ty
            have hbl : Below q (y.alloc (.cells #[.int .i64 u] 3)) w' := (Below.refl _ _).grown k3 (by rw [size_alloc]; omega) (fun k hk => (ho.lt k hk).1)
            refine ⟨v', w', k1, ?_, (h1.below hal).on hbl HQ.out.2, (h2.trans (Up.of hal)).on hbl (by rw [HQ.out.1]; exact Nat.le_refl _)⟩
            rw [List.length_append, List.map_append]
            exact k2
          go_wp2_with (first
            | (go_at_call 77; refine (HCT.out _ H2.out.2.1 H2.out.1).mono ?_; rintro e w3 ⟨h1, rfl, h2⟩; have H3 : Hid (RB r r3 w3 ∧ Up r w w3 ∧ w3.ownsRow q 3 1 (.slice a T.length cap) T.length (T.map (Value.int .i64))) := ⟨h2, H2.out.2.1.trans h1, owns_up h1 HQ.out.2 H2.out.2.2⟩; clear h1 h2)
            | (at_builtin; go_loud (refine wpList_app _ rfl (.tmp 9) (.tmp 12) 22 22 rfl _ _ rfl rfl (HAP.out w3 H3.out.1 H3.out.2.1 H3.out.2.2) ?_; rintro v' w4 ⟨h1, h2, h3⟩; have H4 : Hid (w4.ownsRow q 3 1 v' (T ++ [u]).length ((T ++ [u]).map (Value.int .i64)) ∧ RB r r3 w4 ∧ Up r w w4) := ⟨h1, h2, h3⟩; clear h1 h2 h3)))
          obtain ⟨a', cap', rfl⟩ := own_slice' H4.out.1
          refine ⟨⟨T ++ [u], r3, H4.out.1, H4.out.2.1, H4.out.2.2, HR.out.1, ?_⟩, ?_⟩
          · have := HR.out.2; have := HU.out.2; rw [List.length_append]; simp only [List.length_cons, List.length_nil]; omega
          · have := HU.out.2; show 5000 - (T ++ [u]).length < 5000 - T.length; rw [List.length_append]; simp only [List.length_cons, List.length_nil]; omega
      | false =>
        have etk : tke [44, 32] r2 = r2 := by unfold tke; rw [hp]; rfl
        rw [hp, etk] at CK
        have hno := tksF_no (T := T) hp
        cases hp2 : pfx [10] r2 with
        | true =>
          have HR : Hid (toksL l = some (T, r2.drop 1)) := by show toksL l = _; rw [htk, hno, hp2]; rfl
          have HCK : Hid _ := CK
          have HCW : Hid (∀ y, RB r r2 y → Calls Tryz.prog 41 #[.pointer (some ⟨r, 0, none⟩), .string ⟨#[10]⟩] y fun e w' => e = .returned (.tuple #[]) ∧ RB r (r2.drop 1) w' ∧ Up r y w') := fun y hy => want_yes r r2 ⟨#[10]⟩ y hy hp2
          clear CK hp hp2 etk htk hno hown hrb hup hle
          go_wp2_with (first
            | (go_at_call 43; refine Calls.mono HCK.out ?_; rintro e w2 ⟨rfl, h1, h2⟩; have H2 : Hid (RB r r2 w2 ∧ Up r w w2 ∧ w2.ownsRow q 3 1 (.slice a T.length cap) T.length (T.map (Value.int .i64))) := ⟨h1, HU.out.1.trans h2, owns_up h2 HQ.out.2 HO.out⟩; clear h1 h2)
            | (go_at_call 41; refine (HCW.out _ H2.out.1).mono ?_; rintro e w3 ⟨rfl, h1, h2⟩; have H3 : Hid (RB r (r2.drop 1) w3 ∧ Up r w w3 ∧ w3.ownsRow q 3 1 (.slice a T.length cap) T.length (T.map (Value.int .i64))) := ⟨h1, H2.out.2.1.trans h2, owns_up h2 HQ.out.2 H2.out.2.2⟩; clear h1 h2))
          go_ret
          refine ⟨H3.out.2.1, ?_⟩
          rw [HR.out]
          exact ⟨_, rfl, by rw [HQ.out.1]; exact H3.out.2.2, H3.out.1⟩
        | false =>
          have HR : Hid (toksL l = none) := by show toksL l = _; rw [htk, hno, hp2]; rfl
          have HCK : Hid _ := CK
          have HCW : Hid (∀ y, RB r r2 y → Up r w y → Calls Tryz.prog 41 #[.pointer (some ⟨r, 0, none⟩), .string ⟨#[10]⟩] y fun e w' => e = PN ea ∧ Up r y w') := fun y hy hu => want_no r r2 ⟨#[10]⟩ y (fun z hz => HE.out z (hu.trans hz)) hy hp2
          clear CK hp hp2 etk htk hno hown hrb hup hle
          go_wp2_with (first
            | (go_at_call 43; refine Calls.mono HCK.out ?_; rintro e w2 ⟨rfl, h1, h2⟩; have H2 : Hid (RB r r2 w2 ∧ Up r w w2) := ⟨h1, HU.out.1.trans h2⟩; clear h1 h2)
            | (go_at_call 41; refine (HCW.out _ H2.out.1 H2.out.2).mono ?_; rintro e w3 ⟨rfl, h2⟩; have H3 : Hid (Up r w w3) := H2.out.2.trans h2; clear h2))
          refine ⟨rfl, H3.out, ?_⟩
          rw [HR.out]
end Go.Proofs.YtpfidohkohldaaaGreatDoor
/- a list of patterns of one's own that grows -/
namespace Go.Proofs.YtpfidohkohldaaaGreatDoor
set_option linter.unusedSimpArgs false
set_option linter.unusedVariables false
open Go.ChangeShapes Go.WideShapes Go.ChangeAt Go.RowKit Go.Pin Go.Pat
def FtL (S : Nat → Prop) (w : World) (v : Value) (L : List Ln) : Prop :=
  ∃ a cap, v = .slice a L.length cap ∧ L.length ≤ cap ∧ L.length ≤ 140737488355328 ∧ ∀ j, j < L.length → ∃ b o u, S b ∧ a = some ⟨b, o, none⟩ ∧ w.cell? ⟨b, o + j * 2, none⟩ = some (.int .i64 (L.getD j (0, [])).1) ∧ w.cell? ⟨b, o + j * 2 + 1, none⟩ = some u ∧ FtN S w u (L.getD j (0, [])).2
def FtP (S : Nat → Prop) (w : World) (v0 v1 vl : Value) (p : Pt) : Prop := FtN S w v0 p.b0 ∧ FtN S w v1 p.b1 ∧ FtL S w vl p.ln
section
variable {S T : Nat → Prop} {w w' W : World} {v v0 v1 vl : Value} {L : List Ln} {p : Pt}
theorem FtL.rd (h : FtL S w v L) : RdL w v L := by
  obtain ⟨a, c, e, h1, h2, h3⟩ := h
  refine ⟨a, c, e, h1, h2, fun j hj => ?_⟩
  obtain ⟨b, o, u, _, g1, g2, g3, g4⟩ := h3 j hj
  exact ⟨b, o, u, g1, g2, g3, g4.rd⟩
theorem FtL.mono (h : FtL S w v L) (hs : ∀ b, S b → T b) : FtL T w v L := by
  obtain ⟨a, c, e, h1, h2, h3⟩ := h
  refine ⟨a, c, e, h1, h2, fun j hj => ?_⟩
  obtain ⟨b, o, u, g0, g1, g2, g3, g4⟩ := h3 j hj
  exact ⟨b, o, u, hs b g0, g1, g2, g3, g4.mono hs⟩
theorem FtL.keep (h : FtL S w v L) (hk : ∀ b, S b → w'.heap[b]? = w.heap[b]?) : FtL S w' v L := by
  obtain ⟨a, c, e, h1, h2, h3⟩ := h
  refine ⟨a, c, e, h1, h2, fun j hj => ?_⟩
  obtain ⟨b, o, u, g0, g1, g2, g3, g4⟩ := h3 j hj
  exact ⟨b, o, u, g0, g1, by rw [World.cell?_of_block (a := ⟨b, o + j * 2, none⟩) (hk b g0)]; exact g2, by rw [World.cell?_of_block (a := ⟨b, o + j * 2 + 1, none⟩) (hk b g0)]; exact g3, g4.keep hk⟩
theorem FtP.mono (h : FtP S w v0 v1 vl p) (hs : ∀ b, S b → T b) : FtP T w v0 v1 vl p := ⟨h.1.mono hs, h.2.1.mono hs, h.2.2.mono hs⟩
theorem FtP.keep (h : FtP S w v0 v1 vl p) (hk : ∀ b, S b → w'.heap[b]? = w.heap[b]?) : FtP S w' v0 v1 vl p := ⟨h.1.keep hk, h.2.1.keep hk, h.2.2.keep hk⟩
theorem FtP.rd (h : FtP S w v0 v1 vl p) : RdP w (.agg #[.string p.nm, v0, v1, vl]) p := ⟨v0, v1, vl, rfl, h.1.rd, h.2.1.rd, h.2.2.rd⟩
theorem FtL.one (h : FtL S w v L) : v.oneCell' = true := by
  obtain ⟨a, c, rfl, _⟩ := h
  rfl
end
/-- a built pattern lies behind its box -/
theorem PS.ftp {gp : Nat} {w0 wr : World} {nm : ByteArray} {v0 v1 vl : Value} {b0 b1 : List Int} {fs : List Lv} (h : PS gp w0 nm v0 v1 vl b0 b1 fs wr) (hn : fs.length ≤ 140737488355328) : FtP (fun b => gp < b ∧ b < wr.heap.size) wr v0 v1 vl ⟨nm, b0, b1, lvl fs⟩ := by
  have hs : ∀ b, Fr gp vl wr b → (gp < b ∧ b < wr.heap.size) := fun b hb => ⟨hb.1, hb.2.1⟩
  refine ⟨h.f0.mono hs, h.f1.mono hs, ?_⟩
  have hl : (lvl fs).length = fs.length := by simp [lvl]
  rcases h.own.2 with ⟨e, e2⟩ | ⟨g, cap', cur, e, hb, hg, h1, h2, h3, h4⟩
  · subst e
    exact ⟨none, 0, by rw [hl, e2], by rw [hl, e2]; exact Nat.le_refl _, by rw [hl]; exact hn, fun j hj => by rw [hl, e2] at hj; omega⟩
  · subst e
    refine ⟨some ⟨g, 0, none⟩, cap', by rw [hl], by rw [hl]; exact h1, by rw [hl]; exact hn, fun j hj => ?_⟩
    rw [hl] at hj
    obtain ⟨a1, a2⟩ := lvc_at fs j hj
    obtain ⟨g', e1, _, k1⟩ := (own_cell h.own).2 _ _ a1
    obtain ⟨g'', e2, _, k2⟩ := (own_cell h.own).2 _ _ a2
    injection e1 with e1
    injection e1 with e1
    injection e2 with e2
    injection e2 with e2
    subst e1 e2
    have hgd : (lvl fs).getD j (0, []) = ((fs.getD j (0, undef, [])).1, (fs.getD j (0, undef, [])).2.2) := by simp [lvl, List.getD, hj]
    have hm : fs.getD j (0, undef, []) ∈ fs := by simp [List.getD, hj]
    rw [hgd]
    exact ⟨g, 0, _, ⟨by omega, (Array.getElem?_eq_some_iff.1 hg).1⟩, rfl, by rw [Nat.zero_add]; exact k1, by rw [Nat.zero_add]; exact k2, (h.ft _ hm).mono hs⟩
/-- a pattern in a list: its values, and what it is -/
structure Pv where
  v0 : Value
  v1 : Value
  vl : Value
  p : Pt
def pvc (ps : List Pv) : List Value := ps.flatMap fun x => [.string x.p.nm, x.v0, x.v1, x.vl]
theorem pvc_length (l : List Pv) : (pvc l).length = l.length * 4 := by
  induction l with
  | nil => rfl
  | cons g r ih => simp [pvc] at ih ⊢; omega
theorem pvc_snoc (l : List Pv) (x : Pv) : pvc (l ++ [x]) = pvc l ++ [.string x.p.nm, x.v0, x.v1, x.vl] := by simp [pvc]
def zPv : Pv := ⟨undef, undef, undef, ⟨⟨#[]⟩, [], [], []⟩⟩
theorem pvc_at (l : List Pv) : ∀ (j : Nat), j < l.length → (pvc l)[j * 4]? = some (.string (l.getD j zPv).p.nm) ∧ (pvc l)[j * 4 + 1]? = some (l.getD j zPv).v0 ∧ (pvc l)[j * 4 + 2]? = some (l.getD j zPv).v1 ∧ (pvc l)[j * 4 + 3]? = some (l.getD j zPv).vl := by
  induction l with
  | nil => intro j hj; simp at hj
  | cons g r ih =>
    intro j hj
    cases j with
    | zero => simp [pvc]
    | succ j =>
      have := ih j (by simpa using hj)
      have e : pvc (g :: r) = .string g.p.nm :: g.v0 :: g.v1 :: g.vl :: pvc r := by simp [pvc]
      rw [e, show (j + 1) * 4 = j * 4 + 1 + 1 + 1 + 1 by omega]
      simpa using this
def So (q : Nat) (vo : Value) (w : World) (b : Nat) : Prop := b < w.heap.size ∧ some b ≠ vo.ownBlock ∧ q ≤ b
structure QS (q : Nat) (W : World) (vo : Value) (ps : List Pv) (wr : World) : Prop where
  old : Below q W wr
  ge : q ≤ wr.heap.size
  own : wr.ownsRow q 26 4 vo ps.length (pvc ps)
  ft : ∀ x ∈ ps, FtP (So q vo wr) wr x.v0 x.v1 x.vl x.p
section
variable {q : Nat} {W wr w' : World} {vo : Value} {ps : List Pv}
theorem QS.below (h : QS q W vo ps wr) (hb : Below wr.heap.size wr w') : QS q W vo ps w' :=
  ⟨h.old.trans (hb.mono h.ge), Nat.le_trans h.ge hb.size, owns_below hb h.own, fun x hx => ((h.ft x hx).keep (fun b hq => hb.block b hq.1)).mono (fun b hq => ⟨Nat.lt_of_lt_of_le hq.1 hb.size, hq.2⟩)⟩
theorem parts_pat : (Tryz.prog.info? 26).map (fun i => (i.zero, i.size, i.bytes)) = some (some (.agg #[.string ⟨#[]⟩, .slice none 0 0, .slice none 0 0, .slice none 0 0]), 4, 88) := by kernel_rfl
theorem QS.app (h : QS q W vo ps wr) (hn : ps.length ≤ 1000000) {a : Nat} (x : Pv) (hf : FtP (So q vo wr) wr x.v0 x.v1 x.vl x.p) (hc : wr.heap[a]? = some (.cells #[.string x.p.nm, x.v0, x.v1, x.vl] 26)) :
    ∀ ty, ∃ v' w', (Builtin.append_ #[31, 31] ty #[vo, .slice (some ⟨a, 0, none⟩) 1 1]).run Tryz.prog wr = .ok v' w' ∧ QS q W v' (ps ++ [x]) w' := fun ty => by
  obtain ⟨v', w', hr, h2, h3, h4⟩ := own_app Tryz.underlying31 parts_pat rfl (by decide) h.own (news := [.string x.p.nm, x.v0, x.v1, x.vl]) hc rfl (fun y hy => by
    simp at hy
    rcases hy with rfl | rfl | rfl | rfl
    · rfl
    · exact hf.1.one
    · exact hf.2.1.one
    · exact hf.2.2.one) (by omega) (by omega) h.ge ty
  have hS : ∀ b, So q vo wr b → So q v' w' b := fun b hb => ⟨Nat.lt_of_lt_of_le hb.1 h3.size, fun e => by
    rcases h4 with h4 | h4
    · rw [h4] at e; exact hb.2.1 e
    · rw [h4] at e; injection e with e; have := hb.1; omega, hb.2.2⟩
  have hk : ∀ b, So q vo wr b → w'.heap[b]? = wr.heap[b]? := fun b hb => h3.block b hb.1 hb.2.1
  refine ⟨v', w', hr, grown_below h.old h.own (Nat.le_refl _) h.ge h3, Nat.le_trans h.ge h3.size, ?_, fun y hy => ?_⟩
  · rw [pvc_snoc, List.length_append]; exact h2
  · rcases List.mem_append.1 hy with hy | hy
    · exact ((h.ft y hy).keep hk).mono hS
    · obtain rfl : y = x := by simpa using hy
      exact (hf.keep hk).mono hS
theorem qs_start (W : World) : QS W.heap.size W (.slice none 0 0) [] W := ⟨Below.refl _ _, Nat.le_refl _, own_nil0 _ _ _ _, fun x hx => by simp at hx⟩
/-- new memory behind the list lies in free blocks -/
theorem QS.new (h : QS q W vo ps wr) {w1 : World} {g : Nat} (hg : wr.heap.size ≤ g) {v0 v1 vl : Value} {p : Pt} (hf : FtP (fun b => g < b ∧ b < w1.heap.size) w1 v0 v1 vl p) : FtP (So q vo w1) w1 v0 v1 vl p :=
  hf.mono fun b hb => ⟨hb.2, fun e => by have := (h.own.lt b e.symm).2; omega, by have := h.ge; omega⟩
end
/-- patterns that are read, in blocks of S -/
def FtQ (S : Nat → Prop) (w : World) (v : Value) (Ps : List Pt) : Prop :=
  ∃ a cap, v = .slice a Ps.length cap ∧ ∀ j, j < Ps.length → ∃ b o v0 v1 vl, S b ∧ a = some ⟨b, o, none⟩ ∧ w.cell? ⟨b, o + j * 4, none⟩ = some (.string (Ps.getD j ⟨⟨#[]⟩, [], [], []⟩).nm) ∧ w.cell? ⟨b, o + j * 4 + 1, none⟩ = some v0 ∧ w.cell? ⟨b, o + j * 4 + 2, none⟩ = some v1 ∧ w.cell? ⟨b, o + j * 4 + 3, none⟩ = some vl ∧ FtP S w v0 v1 vl (Ps.getD j ⟨⟨#[]⟩, [], [], []⟩)
theorem FtQ.keep {S : Nat → Prop} {w W : World} {v : Value} {Ps : List Pt} (h : FtQ S w v Ps) (hk : ∀ b, S b → W.heap[b]? = w.heap[b]?) : FtQ S W v Ps := by
  obtain ⟨a, c, e, h3⟩ := h
  refine ⟨a, c, e, fun j hj => ?_⟩
  obtain ⟨b, o, v0, v1, vl, g0, g1, g2, g3, g4, g5, g6⟩ := h3 j hj
  have hc : ∀ k u, w.cell? ⟨b, k, none⟩ = some u → W.cell? ⟨b, k, none⟩ = some u := fun k u hu => by rw [World.cell?_of_block (a := ⟨b, k, none⟩) (hk b g0)]; exact hu
  exact ⟨b, o, v0, v1, vl, g0, g1, hc _ _ g2, hc _ _ g3, hc _ _ g4, hc _ _ g5, g6.keep hk⟩
theorem FtQ.mono {S T : Nat → Prop} {w : World} {v : Value} {Ps : List Pt} (h : FtQ S w v Ps) (hs : ∀ b, S b → T b) : FtQ T w v Ps := by
  obtain ⟨a, c, e, h3⟩ := h
  refine ⟨a, c, e, fun j hj => ?_⟩
  obtain ⟨b, o, v0, v1, vl, g0, g1, g2, g3, g4, g5, g6⟩ := h3 j hj
  exact ⟨b, o, v0, v1, vl, hs b g0, g1, g2, g3, g4, g5, g6.mono hs⟩
/-- patterns that lie behind a place -/
def RdQ (q : Nat) (w : World) (v : Value) (Ps : List Pt) : Prop := FtQ (fun b => q ≤ b ∧ b < w.heap.size) w v Ps
theorem RdQ.below {q : Nat} {w W : World} {v : Value} {Ps : List Pt} (h : RdQ q w v Ps) (hb : Below w.heap.size w W) : RdQ q W v Ps :=
  (FtQ.keep h (fun b hq => hb.block b hq.2)).mono fun b hq => ⟨hq.1, Nat.lt_of_lt_of_le hq.2 hb.size⟩
theorem RdQ.mono {q p : Nat} {w : World} {v : Value} {Ps : List Pt} (h : RdQ q w v Ps) (hp : p ≤ q) : RdQ p w v Ps := FtQ.mono h fun b hq => ⟨Nat.le_trans hp hq.1, hq.2⟩
theorem QS.rd {q : Nat} {W wr : World} {vo : Value} {ps : List Pv} (h : QS q W vo ps wr) : RdQ q wr vo (ps.map Pv.p) := by
  obtain ⟨a, cap, rfl⟩ := own_slice' h.own
  refine ⟨a, cap, by rw [List.length_map], fun j hj => ?_⟩
  rw [List.length_map] at hj
  obtain ⟨a0, a1, a2, a3⟩ := pvc_at ps j hj
  obtain ⟨g, e0, hg0, k0⟩ := (own_cell h.own).2 _ _ a0
  obtain ⟨g1, e1, _, k1⟩ := (own_cell h.own).2 _ _ a1
  obtain ⟨g2, e2, _, k2⟩ := (own_cell h.own).2 _ _ a2
  obtain ⟨g3, e3, _, k3⟩ := (own_cell h.own).2 _ _ a3
  subst e0
  injection e1 with e1
  injection e1 with e1
  injection e2 with e2
  injection e2 with e2
  injection e3 with e3
  injection e3 with e3
  subst e1 e2 e3
  have hm : ps.getD j zPv ∈ ps := by simp [List.getD, hj]
  have hgd : (ps.map Pv.p).getD j ⟨⟨#[]⟩, [], [], []⟩ = (ps.getD j zPv).p := by simp [List.getD, hj]
  rw [hgd]
  exact ⟨g, 0, _, _, _, ⟨hg0, World.block_lt_of_cell? wr _ k0⟩, rfl, by rw [Nat.zero_add]; exact k0, by rw [Nat.zero_add]; exact k1, by rw [Nat.zero_add]; exact k2, by rw [Nat.zero_add]; exact k3, (h.ft _ hm).mono fun b hb => ⟨hb.2.2, hb.1⟩⟩
end Go.Proofs.YtpfidohkohldaaaGreatDoor
