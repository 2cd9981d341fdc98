import Derived.Test.YtjhleocpipmklaaDoorMjax
import Derived.Test.YtjhleocpipmklaaDoorMjal
namespace Go.Proofs.YtjhleocpipmklaaDoor
set_option linter.unusedSimpArgs false
set_option linter.unusedVariables false
set_option maxRecDepth 100000
open Go.ChangeShapes Go.WideShapes Go.ChangeAt Go.RowKit Go.Pin Go.Pat Go.Deep
def TokP (ea : Int → Addr) (r : Nat) (l : List UInt8) (w : World) (e : Ending) (w' : World) : Prop :=
  Up r w w' ∧ match tokL l with
    | none => e = PN ea
    | some (t, rest) => e = .returned (.int .i64 t) ∧ RB r rest w'
set_option maxHeartbeats 4000000 in
theorem token_any' {ea : Int → Addr} (r : Nat) (l : List UInt8) (hl : l.length ≤ 4096) (w : World) (hE : Errs ea w) (h : RB r l w) :
    Calls Tryd.prog 116 #[.pointer (some ⟨r, 0, none⟩)] w (TokP ea r l w) := by
  have hle := ctb_le lw l
  have hsz := bl_size l
  have hc := h.c
  have hf := h.f
  obtain ⟨s, hs⟩ : ∃ s, bl l = s := ⟨_, rfl⟩
  obtain ⟨L, hL⟩ : ∃ L, l.length = L := ⟨_, rfl⟩
  rw [hs] at hc hsz
  rw [hL] at hle hsz hl
  have HS : Hid (bl l = s ∧ l.length = L ∧ ctb lw l ≤ L) := ⟨hs, hL, hle⟩
  have HR : Hid (RB r l w) := h
  have HE : Hid (Errs ea w) := hE
  have bL : (L : Int) ≤ 4096 := by omega
  clear h hE hs hL hle
  go_enter Tryd.func116, Tryd.ntmps116
  go_wp2
  go_loopw [3] (fun v3 wr => ∃ i : Nat, i ≤ ctb lw l ∧ v3 = .int .i64 i ∧ wr = w) (fun v _ => L - (intOf v).toNat)
  case atStart => exact ⟨0, Nat.zero_le _, rfl, rfl⟩
  case round =>
    obtain ⟨i, hi, rfl, rfl⟩ := hrel
    have hmore : i < L → ∀ h : i < l.length, (lw l[i] = true → i + 1 ≤ ctb lw l) ∧ (lw l[i] = false → i = ctb lw l) := fun _ h => ctb_at lw l i h hi
    by_cases hlt : i < L ∧ ∃ h : i < l.length, lw l[i] = true
    · obtain ⟨hlt, hil, hb⟩ := hlt
      have b1 : (i : Int) < (L : Int) := by omega
      have HK : Hid (i + 1 ≤ ctb lw l) := (hmore hlt hil).1 hb
      have hsi : i < s.size := by omega
      have ei : s[i] = l[i] := by
        have := HS.out.1
        subst this
        rfl
      have CN := fun y => inWord_any s[i] y
      rw [ei, hb] at CN
      rw [← ei] at CN
      clear hmore hb hi hil ei
      go_wp2_with (go_at_call 117; refine (CN _).mono ?_; rintro e w' ⟨rfl, rfl⟩)
      exact ⟨⟨i + 1, HK.out, congrArg (Value.int .i64) (by omega), trivial⟩, by show L - ((i : Int) + 1).toNat < L - ((i : Int)).toNat; omega⟩
    · have hiN : i = ctb lw l := by
        by_cases h1 : i < L
        · have hil : i < l.length := by rw [HS.out.2.1]; exact h1
          cases hb : lw l[i] with
          | true => exact absurd ⟨h1, hil, hb⟩ hlt
          | false => exact (hmore h1 hil).2 hb
        · have := HS.out.2.2; omega
      by_cases h1 : i < L
      · have b1 : (i : Int) < (L : Int) := by omega
        have hil : i < l.length := by rw [HS.out.2.1]; exact h1
        have hb : lw l[i] = false := by
          cases hb : lw l[i] with
          | true => exact absurd ⟨h1, hil, hb⟩ hlt
          | false => rfl
        have hsi : i < s.size := by omega
        have ei : s[i] = l[i] := by
          have := HS.out.1
          subst this
          rfl
        have CN := fun y => inWord_any s[i] y
        rw [ei, hb] at CN
        rw [← ei] at CN
        clear hmore hb ei hlt
        by_cases hn0 : i = 0
        · have HT : Hid (tokL l = none) := by
            show tokL l = none
            unfold tokL
            rw [← hiN, if_pos hn0]
          have CM := must_no _ HE.out
          have g0 : ¬ (0 : Int) < (i : Int) := by omega
          have g0' : ¬ 0 < i := by omega
          clear hn0 hiN hi
          go_wp2_with (first
              | (go_at_call 117; refine (CN _).mono ?_; rintro e w' ⟨rfl, rfl⟩)
              | (go_at_call 103; refine CM.mono ?_; rintro e w2 ⟨rfl, rfl⟩))
          refine ⟨rfl, Up.refl _ _, ?_⟩
          rw [HT.out]
        · have g0 : (0 : Int) < (i : Int) := by omega
          have g0' : 0 < i := by omega
          have giL : (i : Int) ≤ (L : Int) := by have := HS.out.2.2; omega
          have e0 := bl_ext0 l i
          have e1 := bl_ext1 l i
          rw [HS.out.1] at e0 e1
          rw [hsz] at e1
          have hset := HR.out.set (l.drop i)
          have hxz : (bl (l.take i)).size ≠ 0 := by rw [bl_size, List.length_take, HS.out.2.1]; omega
          have CT := tokenOf_any (ea := ea) (bl (l.take i)) hxz _ HE.out
          have CM := fun y => must_yes y
          have htok : tokL l = if tokO (bl (l.take i)) 7 = 0 then none else some ((tokO (bl (l.take i)) 7 : Int), l.drop i) := by
            unfold tokL
            rw [← hiN, if_neg hn0]
            rfl
          unfold TkP at CT
          obtain ⟨a, ha⟩ : ∃ s, bl (l.take i) = s := ⟨_, rfl⟩
          obtain ⟨b, hb⟩ : ∃ s, bl (l.drop i) = s := ⟨_, rfl⟩
          rw [ha] at e0 CT htok
          rw [hb] at e1 hset
          have HSET : Hid _ := hset
          have HTK : Hid _ := htok
          clear hset htok hn0 hiN hi ha hb hxz
          by_cases htz : tokO a 7 = 0
          · have HT : Hid (tokL l = none) := by show tokL l = none; rw [HTK.out, if_pos htz]
            simp only [htz, if_true] at CT
            clear htz
            go_wp2_with (first
              | (go_at_call 117; refine (CN _).mono ?_; rintro e w' ⟨rfl, rfl⟩)
              | (go_at_call 103; refine (CM _).mono ?_; rintro e w2 ⟨rfl, rfl⟩)
              | (go_at_call 118; (try rw [e0]); refine CT.mono ?_; rintro e w3 ⟨rfl, rfl⟩))
            refine ⟨rfl, Up.refl _ _, ?_⟩
            rw [HT.out]
          · obtain ⟨t, htt⟩ : ∃ t : Nat, tokO a 7 = t := ⟨_, rfl⟩
            have HT : Hid (tokL l = some ((t : Int), l.drop i)) := by show tokL l = _; rw [HTK.out, if_neg htz, htt]
            rw [htt] at CT htz
            simp only [htz, if_false] at CT
            clear htz htt
            go_wp2_with (first
              | (go_at_call 117; refine (CN _).mono ?_; rintro e w' ⟨rfl, rfl⟩)
              | (go_at_call 103; refine (CM _).mono ?_; rintro e w2 ⟨rfl, rfl⟩)
              | (go_at_call 118; (try rw [e0]); refine CT.mono ?_; rintro e w3 ⟨rfl, rfl⟩))
            go_ret
            refine ⟨(Up.refl _ _).set 0 _, ?_⟩
            rw [HT.out]
            exact ⟨rfl, HSET.out⟩
      · have b1 : ¬ (i : Int) < (L : Int) := by omega
        clear hmore hlt
        by_cases hn0 : i = 0
        · have HT : Hid (tokL l = none) := by
            show tokL l = none
            unfold tokL
            rw [← hiN, if_pos hn0]
          have CM := must_no _ HE.out
          have g0 : ¬ (0 : Int) < (i : Int) := by omega
          have g0' : ¬ 0 < i := by omega
          clear hn0 hiN hi
          go_wp2_with (first
              | (go_at_call 103; refine CM.mono ?_; rintro e w2 ⟨rfl, rfl⟩))
          refine ⟨rfl, Up.refl _ _, ?_⟩
          rw [HT.out]
        · have g0 : (0 : Int) < (i : Int) := by omega
          have g0' : 0 < i := by omega
          have giL : (i : Int) ≤ (L : Int) := by have := HS.out.2.2; omega
          have e0 := bl_ext0 l i
          have e1 := bl_ext1 l i
          rw [HS.out.1] at e0 e1
          rw [hsz] at e1
          have hset := HR.out.set (l.drop i)
          have hxz : (bl (l.take i)).size ≠ 0 := by rw [bl_size, List.length_take, HS.out.2.1]; omega
          have CT := tokenOf_any (ea := ea) (bl (l.take i)) hxz _ HE.out
          have CM := fun y => must_yes y
          have htok : tokL l = if tokO (bl (l.take i)) 7 = 0 then none else some ((tokO (bl (l.take i)) 7 : Int), l.drop i) := by
            unfold tokL
            rw [← hiN, if_neg hn0]
            rfl
          unfold TkP at CT
          obtain ⟨a, ha⟩ : ∃ s, bl (l.take i) = s := ⟨_, rfl⟩
          obtain ⟨b, hb⟩ : ∃ s, bl (l.drop i) = s := ⟨_, rfl⟩
          rw [ha] at e0 CT htok
          rw [hb] at e1 hset
          have HSET : Hid _ := hset
          have HTK : Hid _ := htok
          clear hset htok hn0 hiN hi ha hb hxz
          by_cases htz : tokO a 7 = 0
          · have HT : Hid (tokL l = none) := by show tokL l = none; rw [HTK.out, if_pos htz]
            simp only [htz, if_true] at CT
            clear htz
            go_wp2_with (first
              | (go_at_call 103; refine (CM _).mono ?_; rintro e w2 ⟨rfl, rfl⟩)
              | (go_at_call 118; (try rw [e0]); refine CT.mono ?_; rintro e w3 ⟨rfl, rfl⟩))
            refine ⟨rfl, Up.refl _ _, ?_⟩
            rw [HT.out]
          · obtain ⟨t, htt⟩ : ∃ t : Nat, tokO a 7 = t := ⟨_, rfl⟩
            have HT : Hid (tokL l = some ((t : Int), l.drop i)) := by show tokL l = _; rw [HTK.out, if_neg htz, htt]
            rw [htt] at CT htz
            simp only [htz, if_false] at CT
            clear htz htt
            go_wp2_with (first
              | (go_at_call 103; refine (CM _).mono ?_; rintro e w2 ⟨rfl, rfl⟩)
              | (go_at_call 118; (try rw [e0]); refine CT.mono ?_; rintro e w3 ⟨rfl, rfl⟩))
            go_ret
            refine ⟨(Up.refl _ _).set 0 _, ?_⟩
            rw [HT.out]
            exact ⟨rfl, HSET.out⟩
end Go.Proofs.YtjhleocpipmklaaDoor
namespace Go.Proofs.YtjhleocpipmklaaDoor
set_option linter.unusedSimpArgs false
set_option linter.unusedVariables false
set_option maxRecDepth 100000
open Go.ChangeShapes Go.WideShapes Go.ChangeAt Go.RowKit Go.Pin Go.Pat Go.Deep
theorem Up.on {r q : Nat} {a w w' : World} (h : Up r a w) (hb : Below q w w') (hq : a.heap.size ≤ q) : Up r a w' :=
  ⟨hb.os.trans h.os, hb.tape.trans h.tape, hb.output.trans h.output, Nat.le_trans h.size hb.size, fun k hk hr => (hb.block k (by omega)).trans (h.block k hk hr)⟩
theorem RB.on {r q : Nat} {l : List UInt8} {w w' : World} (h : RB r l w) (hb : Below q w w') (hq : r < q) : RB r l w' := (hb.block r hq).trans h
theorem owns_up {r : Nat} {w w' : World} (hb : Up r w w') {b : Nat} {e : TypeId} {size : Nat} {v : Value} {n : Nat} {xs : List Value} (hr : r < b) (ho : w.ownsRow b e size v n xs) : w'.ownsRow b e size v n xs := by
  refine ⟨ho.1, ?_⟩
  rcases ho.2 with h0 | ⟨g, cap, cur, rfl, h1, hg, hr2⟩
  · exact .inl h0
  · exact .inr ⟨g, cap, cur, rfl, h1, (hb.block g (Array.getElem?_eq_some_iff.1 hg).1 (by omega)).trans hg, hr2⟩
def vlen : Value → Nat
  | .slice _ n _ => n
  | _ => 0
def TksP (ea : Int → Addr) (r : Nat) (l : List UInt8) (w : World) (e : Ending) (w' : World) : Prop :=
  Up r w w' ∧ match toksL l with
    | none => e = PN ea
    | some (ts, rest) => ∃ v, e = .returned v ∧ w'.ownsRow w.heap.size 3 1 v ts.length (ts.map (Value.int .i64)) ∧ RB r rest w'
/-- a row's tokens, when some of them are read -/
def tksF (T : List Int) (r1 : List UInt8) : Option (List Int × List UInt8) :=
  match moreL r1 with
  | none => none
  | some (ts, r') => if pfx [10] r' then some (T ++ ts, r'.drop 1) else none
theorem tksF_yes {T : List Int} {r1 r2 : List UInt8} {t : Int} (h : pfx [44, 32] r1 = true) (ht : tokL (r1.drop 2) = some (t, r2)) : tksF T r1 = tksF (T ++ [t]) r2 := by
  unfold tksF
  rw [moreL_yes h, ht]
  simp only
  cases moreL r2 with
  | none => rfl
  | some x =>
    obtain ⟨ts, r'⟩ := x
    simp
theorem tksF_none {T : List Int} {r1 : List UInt8} (h : pfx [44, 32] r1 = true) (ht : tokL (r1.drop 2) = none) : tksF T r1 = none := by
  unfold tksF
  rw [moreL_yes h, ht]
theorem tksF_no {T : List Int} {r1 : List UInt8} (h : pfx [44, 32] r1 = false) : tksF T r1 = if pfx [10] r1 then some (T, r1.drop 1) else none := by
  unfold tksF
  rw [moreL_no h]
  simp
theorem toksL_F {l r1 : List UInt8} {t : Int} (ht : tokL l = some (t, r1)) : toksL l = tksF [t] r1 := by
  unfold toksL tksF
  rw [ht]
  simp only
  cases moreL r1 with
  | none => rfl
  | some x => rfl
set_option maxHeartbeats 4000000 in
theorem tokens_any' {ea : Int → Addr} (r : Nat) (l : List UInt8) (hl : l.length ≤ 4096) (w : World) (hE : ∀ y, Up r w y → Errs ea y) (h : RB r l w) :
    Calls Tryd.prog 113 #[.pointer (some ⟨r, 0, none⟩)] w (TksP ea r l w) := by
  have CT := token_any' r l hl w (hE w (Up.refl _ _)) h
  obtain ⟨q, hq⟩ : ∃ q, w.heap.size = q := ⟨_, rfl⟩
  have hrq : r < q := by have := h.lt; omega
  unfold TokP at CT
  cases ht : tokL l with
  | none =>
    have HR : Hid (toksL l = none) := by show toksL l = none; unfold toksL; rw [ht]
    simp only [ht] at CT
    have HCT : Hid _ := CT
    clear CT ht h
    go_enter Tryd.func113, Tryd.ntmps113
    go_wp2_with (go_at_call 116; refine Calls.mono HCT.out ?_; rintro e w1 ⟨h1, rfl⟩; have H1 : Hid (Up r w w1) := h1; clear h1)
    refine ⟨rfl, H1.out, ?_⟩
    rw [HR.out]
  | some x =>
    obtain ⟨t, r1⟩ := x
    have hF := toksL_F ht
    have hlen := (tokL_bck ht).2.2
    simp only [ht] at CT
    have HCT : Hid _ := CT
    have HE : Hid (∀ y, Up r w y → Errs ea y) := hE
    have HF : Hid (toksL l = tksF [t] r1 ∧ r1.length < l.length ∧ l.length ≤ 4096) := ⟨hF, hlen, hl⟩
    have HQ : Hid (w.heap.size = q ∧ r < q) := ⟨hq, hrq⟩
    clear CT ht h hE hF hlen hl hrq
    go_enter Tryd.func113, Tryd.ntmps113
    go_wp2_with (go_at_call 116; refine Calls.mono HCT.out ?_; rintro e w1 ⟨h1, rfl, h2⟩; have H1 : Hid (Up r w w1 ∧ RB r r1 w1) := ⟨h1, h2⟩; clear h1 h2)
    go_loopw [3] (fun v3 wr => ∃ (T : List Int) (r2 : List UInt8), wr.ownsRow q 3 1 v3 T.length (T.map (Value.int .i64)) ∧ RB r r2 wr ∧ Up r w wr ∧ toksL l = tksF T r2 ∧ T.length + r2.length ≤ 4096) (fun v _ => 5000 - vlen v)
    case atStart =>
      have hal : Below w1.heap.size w1 (w1.alloc (.cells #[.int .i64 t] 3)) := (Below.refl _ _).alloc (Nat.le_refl _) _
      have hqs : q ≤ w1.heap.size := by have := H1.out.1.size; have := HQ.out.1; omega
      refine ⟨[t], r1, ⟨rfl, .inr ⟨w1.heap.size, 1, #[.int .i64 t], rfl, hqs, heap_alloc_new _ _, Nat.le_refl _, by unfold maxLen; decide, rfl, rfl⟩⟩, H1.out.2.below hal, H1.out.1.trans (Up.of hal), HF.out.1, ?_⟩
      have := HF.out.2
      show 1 + _ ≤ _
      omega
    case round =>
      obtain ⟨T, r2, hown, hrb, hup, htk, hle⟩ := hrel
      have CK := take_any r r2 ⟨#[44, 32]⟩ wr hrb
      rw [show toL ⟨#[44, 32]⟩ = [44, 32] from rfl] at CK
      obtain ⟨a, cap, rfl⟩ := own_slice' hown
      have HO : Hid (wr.ownsRow q 3 1 (.slice a T.length cap) T.length (T.map (Value.int .i64))) := hown
      have HU : Hid (Up r w wr ∧ T.length + r2.length ≤ 4096) := ⟨hup, hle⟩
      cases hp : pfx [44, 32] r2 with
      | true =>
        have etk : tke [44, 32] r2 = r2.drop 2 := by unfold tke; rw [hp]; rfl
        rw [hp, etk] at CK
        have hl2 : (r2.drop 2).length + 2 ≤ r2.length := by
          have := congrArg List.length (pfx_true hp)
          rw [List.length_append] at this
          have e2 : ([44, 32] : List UInt8).length = 2 := rfl
          rw [e2] at this
          omega
        have CT : ∀ y, Up r w y → RB r (r2.drop 2) y → Calls Tryd.prog 116 #[.pointer (some ⟨r, 0, none⟩)] y (TokP ea r (r2.drop 2) y) := fun y hy hb => token_any' r _ (by omega) y (HE.out y hy) hb
        unfold TokP at CT
        cases ht : tokL (r2.drop 2) with
        | none =>
          have HR : Hid (toksL l = none) := by show toksL l = none; rw [htk]; exact tksF_none hp ht
          simp only [ht] at CT
          have HCT : Hid _ := CT
          have HCK : Hid _ := CK
          clear CT CK ht hp etk htk hown hrb hup hle hl2
          go_wp2_with (first
            | (go_at_call 101; refine Calls.mono HCK.out ?_; rintro e w2 ⟨rfl, h1, h2⟩; have H2 : Hid (RB r (r2.drop 2) w2 ∧ Up r w w2) := ⟨h1, HU.out.1.trans h2⟩; clear h1 h2)
            | (go_at_call 116; refine (HCT.out _ H2.out.2 H2.out.1).mono ?_; rintro e w3 ⟨h1, rfl⟩; have H3 : Hid (Up r w w3) := H2.out.2.trans h1; clear h1))
          refine ⟨rfl, H3.out, ?_⟩
          rw [HR.out]
        | some x =>
          obtain ⟨u, r3⟩ := x
          have HR : Hid (toksL l = tksF (T ++ [u]) r3 ∧ r3.length < (r2.drop 2).length ∧ (r2.drop 2).length + 2 ≤ r2.length) := ⟨by rw [htk]; exact tksF_yes hp ht, (tokL_bck ht).2.2, hl2⟩
          simp only [ht] at CT
          have HCT : Hid _ := CT
          have HCK : Hid _ := CK
          clear CT CK ht hp etk htk hown hrb hup hle hl2
          go_upto_region 3 with (go_at_call 101; refine Calls.mono HCK.out ?_; rintro e w2 ⟨rfl, h1, h2⟩; have H2 : Hid (RB r (r2.drop 2) w2 ∧ Up r w w2 ∧ w2.ownsRow q 3 1 (.slice a T.length cap) T.length (T.map (Value.int .i64))) := ⟨h1, HU.out.1.trans h2, owns_up h2 HQ.out.2 HO.out⟩; clear h1 h2)
          have HAP : Hid (∀ y, RB r r3 y → Up r w y → y.ownsRow q 3 1 (.slice a T.length cap) T.length (T.map (Value.int .i64)) → ∀ ty, ∃ v' w', (Builtin.append_ #[22, 22] ty #[.slice a T.length cap, .slice (some ⟨y.heap.size, 0, none⟩) 1 1]).run Tryd.prog (y.alloc (.cells #[.int .i64 u] 3)) = .ok v' w' ∧ (w'.ownsRow q 3 1 v' (T ++ [u]).length ((T ++ [u]).map (Value.int .i64)) ∧ RB r r3 w' ∧ Up r w w')) := fun y h1 h2 h3 ty => by
            have hal : Below y.heap.size y (y.alloc (.cells #[.int .i64 u] 3)) := (Below.refl _ _).alloc (Nat.le_refl _) _
            have hqs : q ≤ y.heap.size := by have := h2.size; have := HQ.out.1; omega
            have ho := owns_below hal h3
            obtain ⟨v', w', k1, k2, k3, k4⟩ := own_app Tryd.underlying22 parts_int rfl (by decide) ho (news := [.int .i64 u]) (heap_alloc_new _ _) rfl (fun x hx => by simp at hx; subst hx; rfl) (by have := HU.out.2; omega) (by have := HU.out.2; omega) (by rw [size_alloc]; omega) ty
            have hbl : Below q (y.alloc (.cells #[.int .i64 u] 3)) w' := (Below.refl _ _).grown k3 (by rw [size_alloc]; omega) (fun k hk => (ho.lt k hk).1)
            refine ⟨v', w', k1, ?_, (h1.below hal).on hbl HQ.out.2, (h2.trans (Up.of hal)).on hbl (by rw [HQ.out.1]; exact Nat.le_refl _)⟩
            rw [List.length_append, List.map_append]
            exact k2
          go_wp2_with (first
            | (go_at_call 116; refine (HCT.out _ H2.out.2.1 H2.out.1).mono ?_; rintro e w3 ⟨h1, rfl, h2⟩; have H3 : Hid (RB r r3 w3 ∧ Up r w w3 ∧ w3.ownsRow q 3 1 (.slice a T.length cap) T.length (T.map (Value.int .i64))) := ⟨h2, H2.out.2.1.trans h1, owns_up h1 HQ.out.2 H2.out.2.2⟩; clear h1 h2)
            | (at_builtin; go_loud (refine wpList_app _ rfl (.tmp 9) (.tmp 12) 22 22 rfl _ _ rfl rfl (HAP.out w3 H3.out.1 H3.out.2.1 H3.out.2.2) ?_; rintro v' w4 ⟨h1, h2, h3⟩; have H4 : Hid (w4.ownsRow q 3 1 v' (T ++ [u]).length ((T ++ [u]).map (Value.int .i64)) ∧ RB r r3 w4 ∧ Up r w w4) := ⟨h1, h2, h3⟩; clear h1 h2 h3)))
          obtain ⟨a', cap', rfl⟩ := own_slice' H4.out.1
          refine ⟨⟨T ++ [u], r3, H4.out.1, H4.out.2.1, H4.out.2.2, HR.out.1, ?_⟩, ?_⟩
          · have := HR.out.2; have := HU.out.2; rw [List.length_append]; simp only [List.length_cons, List.length_nil]; omega
          · have := HU.out.2; show 5000 - (T ++ [u]).length < 5000 - T.length; rw [List.length_append]; simp only [List.length_cons, List.length_nil]; omega
      | false =>
        have etk : tke [44, 32] r2 = r2 := by unfold tke; rw [hp]; rfl
        rw [hp, etk] at CK
        have hno := tksF_no (T := T) hp
        cases hp2 : pfx [10] r2 with
        | true =>
          have HR : Hid (toksL l = some (T, r2.drop 1)) := by show toksL l = _; rw [htk, hno, hp2]; rfl
          have HCK : Hid _ := CK
          have HCW : Hid (∀ y, RB r r2 y → Calls Tryd.prog 99 #[.pointer (some ⟨r, 0, none⟩), .string ⟨#[10]⟩] y fun e w' => e = .returned (.tuple #[]) ∧ RB r (r2.drop 1) w' ∧ Up r y w') := fun y hy => want_yes r r2 ⟨#[10]⟩ y hy hp2
          clear CK hp hp2 etk htk hno hown hrb hup hle
          go_wp2_with (first
            | (go_at_call 101; refine Calls.mono HCK.out ?_; rintro e w2 ⟨rfl, h1, h2⟩; have H2 : Hid (RB r r2 w2 ∧ Up r w w2 ∧ w2.ownsRow q 3 1 (.slice a T.length cap) T.length (T.map (Value.int .i64))) := ⟨h1, HU.out.1.trans h2, owns_up h2 HQ.out.2 HO.out⟩; clear h1 h2)
            | (go_at_call 99; refine (HCW.out _ H2.out.1).mono ?_; rintro e w3 ⟨rfl, h1, h2⟩; have H3 : Hid (RB r (r2.drop 1) w3 ∧ Up r w w3 ∧ w3.ownsRow q 3 1 (.slice a T.length cap) T.length (T.map (Value.int .i64))) := ⟨h1, H2.out.2.1.trans h2, owns_up h2 HQ.out.2 H2.out.2.2⟩; clear h1 h2))
          go_ret
          refine ⟨H3.out.2.1, ?_⟩
          rw [HR.out]
          exact ⟨_, rfl, by rw [HQ.out.1]; exact H3.out.2.2, H3.out.1⟩
        | false =>
          have HR : Hid (toksL l = none) := by show toksL l = _; rw [htk, hno, hp2]; rfl
          have HCK : Hid _ := CK
          have HCW : Hid (∀ y, RB r r2 y → Up r w y → Calls Tryd.prog 99 #[.pointer (some ⟨r, 0, none⟩), .string ⟨#[10]⟩] y fun e w' => e = PN ea ∧ Up r y w') := fun y hy hu => want_no r r2 ⟨#[10]⟩ y (fun z hz => HE.out z (hu.trans hz)) hy hp2
          clear CK hp hp2 etk htk hno hown hrb hup hle
          go_wp2_with (first
            | (go_at_call 101; refine Calls.mono HCK.out ?_; rintro e w2 ⟨rfl, h1, h2⟩; have H2 : Hid (RB r r2 w2 ∧ Up r w w2) := ⟨h1, HU.out.1.trans h2⟩; clear h1 h2)
            | (go_at_call 99; refine (HCW.out _ H2.out.1 H2.out.2).mono ?_; rintro e w3 ⟨rfl, h2⟩; have H3 : Hid (Up r w w3) := H2.out.2.trans h2; clear h2))
          refine ⟨rfl, H3.out, ?_⟩
          rw [HR.out]
end Go.Proofs.YtjhleocpipmklaaDoor
namespace Go.Proofs.YtjhleocpipmklaaDoor
set_option linter.unusedSimpArgs false
set_option linter.unusedVariables false
set_option maxRecDepth 100000
open Go.ChangeShapes Go.WideShapes Go.ChangeAt Go.RowKit Go.Pin Go.Pat Go.Deep
def Fq (q : Nat) (vl : Value) (w : World) (b : Nat) : Prop := q ≤ b ∧ b < w.heap.size ∧ some b ≠ vl.ownBlock
/-- rows that are read, beside the reader -/
structure LS (q r : Nat) (w0 : World) (rest : List UInt8) (vl : Value) (fs : List Lv) (wr : World) : Prop where
  up : Up r w0 wr
  hq : w0.heap.size = q
  rq : r < q
  rb : RB r rest wr
  own : wr.ownsRow q 43 2 vl fs.length (lvc fs)
  ft : ∀ f ∈ fs, FtN (Fq q vl wr) wr f.2.1 f.2.2
  ow : ∀ f ∈ fs, wr.ownsRow q 3 1 f.2.1 f.2.2.length (f.2.2.map (Value.int .i64))
  nd : (obs fs).Nodup
/-- rows of two types lie in two blocks -/
theorem own_ne {w : World} {b b' : Nat} {e e' : TypeId} {k k' n n' : Nat} {v v' : Value} {xs xs' : List Value} (h : w.ownsRow b e k v n xs) (h' : w.ownsRow b' e' k' v' n' xs') (hne : e ≠ e') {g : Nat} (hg : v.ownBlock = some g) : v'.ownBlock ≠ some g := fun h2 => by
  rcases h.2 with ⟨rfl, _⟩ | ⟨g', cap, cur, rfl, _, h1, _⟩
  · cases hg
  · rcases h'.2 with ⟨rfl, _⟩ | ⟨g2, cap', cur', rfl, _, h3, _⟩
    · cases h2
    · injection hg with hg
      injection h2 with h2
      subst hg h2
      rw [h1] at h3
      injection h3 with h3
      injection h3 with _ h3
      exact hne h3
theorem own_dn {w : World} {b b2 : Nat} {e : TypeId} {k n : Nat} {v : Value} {xs : List Value} (h : w.ownsRow b e k v n xs) (hb : b2 ≤ b) : w.ownsRow b2 e k v n xs := by
  refine ⟨h.1, ?_⟩
  rcases h.2 with h0 | ⟨g, cap, cur, rfl, h1, hr⟩
  · exact .inl h0
  · exact .inr ⟨g, cap, cur, rfl, Nat.le_trans hb h1, hr⟩
section
variable {q r : Nat} {w0 wr w' : World} {rest : List UInt8} {vl : Value} {fs : List Lv}
theorem LS.size (h : LS q r w0 rest vl fs wr) : q ≤ wr.heap.size := by have := h.up.size; have := h.hq; omega
theorem LS.on (h : LS q r w0 rest vl fs wr) (hu : Up r wr w') {rest' : List UInt8} (hr : RB r rest' w') : LS q r w0 rest' vl fs w' := by
  have hrq := h.rq
  refine ⟨h.up.trans hu, h.hq, h.rq, hr, owns_up hu h.rq h.own, fun f hf => ?_, fun f hf => owns_up hu h.rq (h.ow f hf), h.nd⟩
  exact ((h.ft f hf).keep (fun b hb => hu.block b hb.2.1 (by have := hb.1; omega))).mono (fun b hb => ⟨hb.1, Nat.lt_of_lt_of_le hb.2.1 hu.size, hb.2.2⟩)
/-- what a call has made lies in free blocks -/
theorem LS.new (h : LS q r w0 rest vl fs wr) {w2 : World} (hs : wr.heap.size ≤ w2.heap.size) {v : Value} {C : List Int} (hf : FtN (fun k => wr.heap.size ≤ k ∧ k < w2.heap.size) w2 v C) : FtN (Fq q vl w2) w2 v C :=
  hf.mono fun b hb => ⟨by have := h.size; omega, hb.2, fun e => by have := (h.own.lt b e.symm).2; omega⟩
theorem LS.app (h : LS q r w0 rest vl fs wr) (hn : fs.length ≤ 1000000) {a : Nat} {f : Int} {u : Value} {C : List Int} (hf : FtN (Fq q vl wr) wr u C) (hu : wr.ownsRow q 3 1 u C.length (C.map (Value.int .i64))) (hnd : ∀ g, u.ownBlock = some g → g ∉ obs fs) (hc : wr.heap[a]? = some (.cells #[.int .i64 f, u] 43)) :
    ∀ ty, ∃ v' w', (Builtin.append_ #[24, 24] ty #[vl, .slice (some ⟨a, 0, none⟩) 1 1]).run Tryd.prog wr = .ok v' w' ∧ LS q r w0 rest v' (fs ++ [(f, u, C)]) w' := fun ty => by
  have hqs := h.size
  obtain ⟨v', w', hr, h2, h3, h4⟩ := own_app Tryd.underlying24 parts_line rfl (by decide) h.own (news := [.int .i64 f, u]) hc rfl (fun x hx => by simp at hx; rcases hx with rfl | rfl; rfl; exact hf.one) (by omega) (by omega) h.size ty
  have hbl : Below q wr w' := (Below.refl _ _).grown h3 hqs (fun k hk => (h.own.lt k hk).1)
  have hS : ∀ b, Fq q vl wr b → Fq q v' w' b := fun b hb => ⟨hb.1, Nat.lt_of_lt_of_le hb.2.1 h3.size, fun e => by
    rcases h4 with h4 | h4
    · exact hb.2.2 (e.trans h4)
    · rw [h4] at e
      injection e with e
      have := hb.2.1
      omega⟩
  have hk : ∀ b, Fq q vl wr b → w'.heap[b]? = wr.heap[b]? := fun b hb => h3.block b hb.2.1 hb.2.2
  refine ⟨v', w', hr, h.up.on hbl (by rw [h.hq]; exact Nat.le_refl _), h.hq, h.rq, h.rb.on hbl h.rq, ?_, fun g hg => ?_, fun g hg => ?_, ?_⟩
  · rw [List.length_append, lvc_snoc]
    exact h2
  · rcases List.mem_append.1 hg with hg | hg
    · exact ((h.ft g hg).keep hk).mono hS
    · rw [List.mem_singleton.1 hg]
      exact (hf.keep hk).mono hS
  · have hkp : ∀ {v : Value} {D : List Int}, wr.ownsRow q 3 1 v D.length (D.map (Value.int .i64)) → w'.ownsRow q 3 1 v D.length (D.map (Value.int .i64)) := fun ho => own_keep ho (fun b hb => h3.block b (ho.lt b hb).2 (fun e => own_ne ho h.own (by decide) hb e.symm))
    rcases List.mem_append.1 hg with hg | hg
    · exact hkp (h.ow g hg)
    · rw [List.mem_singleton.1 hg]
      exact hkp hu
  · rw [obs_app, obs_one, List.nodup_append]
    refine ⟨h.nd, by cases u.ownBlock <;> simp, fun k hk m hm e => ?_⟩
    subst e
    exact hnd k (by simpa using hm) hk
end
theorem ls_start {r : Nat} {w : World} {l : List UInt8} (h : RB r l w) : LS w.heap.size r w l (.slice none 0 0) [] w :=
  ⟨Up.refl _ _, rfl, h.lt, h, own_nil0 _ _ _ _, fun f hf => by simp at hf, fun f hf => by simp at hf, by simp [obs]⟩
def RwsP (ea : Int → Addr) (r : Nat) (l : List UInt8) (w : World) (e : Ending) (w' : World) : Prop :=
  match rowsL l with
    | none => e = PN ea ∧ Up r w w'
    | some (R, rest) => ∃ vl fs, e = .returned vl ∧ lvl fs = R ∧ LS w.heap.size r w rest vl fs w'
set_option maxHeartbeats 4000000 in
theorem rows_any' {ea : Int → Addr} (r : Nat) (l : List UInt8) (hl : l.length ≤ 4096) (w : World) (hE : ∀ y, Up r w y → Errs ea y) (h : RB r l w) :
    Calls Tryd.prog 100 #[.pointer (some ⟨r, 0, none⟩)] w (RwsP ea r l w) := by
  obtain ⟨q, hq⟩ : ∃ q, w.heap.size = q := ⟨_, rfl⟩
  have hst := ls_start h
  rw [hq] at hst
  have HS : Hid (LS q r w l (.slice none 0 0) [] w) := hst
  have HE : Hid (∀ y, Up r w y → Errs ea y) := hE
  have HL : Hid (l.length ≤ 4096 ∧ w.heap.size = q) := ⟨hl, hq⟩
  have HHD : Hid (∀ y, Up r w y → y.cell? ⟨9, 1, none⟩ = some (.string (hdr 1))) := fun y hy => head_at (hE y hy).2 1 (by decide)
  clear h hst hE hl
  go_enter Tryd.func100, Tryd.ntmps100
  go_wp2
  go_loopw [3] (fun v3 wr => ∃ (fs : List Lv) (r2 : List UInt8), LS q r w r2 v3 fs wr ∧ rowsL l = (rowsL r2).map (fun x => (lvl fs ++ x.1, x.2)) ∧ fs.length + r2.length ≤ 4096) (fun v _ => 5000 - vlen v)
  case atStart =>
    refine ⟨[], l, HS.out, ?_, by have := HL.out.1; show 0 + _ ≤ _; omega⟩
    cases rowsL l with
    | none => rfl
    | some x => rfl
  case round =>
    obtain ⟨fs, r2, hx, hrw, hle⟩ := hrel
    obtain ⟨a, cap, rfl⟩ := own_slice' hx.own
    have HX0 : Hid (LS q r w r2 (.slice a fs.length cap) fs wr) := hx
    have HLE : Hid (fs.length + r2.length ≤ 4096) := hle
    have CK0 := take_any r r2 (hdr 0) wr hx.rb
    rw [show toL (hdr 0) = hA from rfl] at CK0
    have hd0 := head_at (HE.out wr hx.up).2 0 (by decide)
    cases hp : pfx hA r2 with
    | true =>
      have HX : Hid (LS q r w r2 (.slice a fs.length cap) fs wr) := hx
      clear hx hle
      have etk : tke hA r2 = r2.drop 5 := by unfold tke; rw [hp]; rfl
      have hl2 : (r2.drop 5).length + 5 ≤ r2.length := by
        have := congrArg List.length (pfx_true hp)
        rw [List.length_append] at this
        have e2 : hA.length = 5 := rfl
        rw [e2] at this
        omega
      have CT : ∀ y, Up r w y → RB r (r2.drop 5) y → Calls Tryd.prog 113 #[.pointer (some ⟨r, 0, none⟩)] y (TksP ea r (r2.drop 5) y) := fun y hy hb => tokens_any' r _ (by have := HLE.out; omega) y (fun z hz => HE.out z (hy.trans hz)) hb
      unfold TksP at CT
      rw [hp, etk] at CK0
      have hrl := rowsL_A hp
      cases ht : toksL (r2.drop 5) with
      | none =>
        have HR : Hid (rowsL l = none) := by show rowsL l = none; rw [hrw, hrl, ht]; rfl
        simp only [ht] at CT
        have HCT : Hid _ := CT
        have HCK0 : Hid _ := CK0
        clear CT CK0 ht hp etk hrl hrw hl2
        go_wp2_with (first
          | (go_at_call 101; refine Calls.mono HCK0.out ?_; rintro e w2 ⟨rfl, h1, h2⟩; have H2 : Hid (LS q r w (r2.drop 5) (.slice a fs.length cap) fs w2) := HX.out.on h2 h1; clear h1 h2)
          | (go_at_call 113; refine (HCT.out _ H2.out.up H2.out.rb).mono ?_; rintro e w3 ⟨h1, rfl⟩; have H3 : Hid (Up r w w3) := H2.out.up.trans h1; clear h1))
        refine ⟨rfl, ?_⟩
        unfold RwsP
        rw [HR.out]
        exact ⟨rfl, H3.out⟩
      | some x =>
        obtain ⟨ts, r3⟩ := x
        have HR : Hid (rowsL l = (rowsL r3).map (fun x => (lvl fs ++ [(0, ts)] ++ x.1, x.2)) ∧ r3.length < (r2.drop 5).length ∧ (r2.drop 5).length + 5 ≤ r2.length) := by
          refine ⟨?_, (toksL_bck ht).2.2.2, hl2⟩
          rw [hrw, hrl, ht]
          simp only
          cases rowsL r3 with
          | none => rfl
          | some y => simp
        have hts : ts.length ≤ 4096 := by
          have := congrArg List.length (toksL_bck ht).1
          have := WL_len ts (toksL_bck ht).2.2.1
          rw [List.length_append] at *
          have := HLE.out
          omega
        simp only [ht] at CT
        have HCT : Hid _ := CT
        have HCK0 : Hid _ := CK0
        have HTS : Hid (ts.length ≤ 4096) := hts
        clear CT CK0 ht hp etk hrl hrw hl2 hts
        go_upto_region 4 with (first
          | (go_at_call 101; refine Calls.mono HCK0.out ?_; rintro e w2 ⟨rfl, h1, h2⟩; have H2 : Hid (LS q r w (r2.drop 5) (.slice a fs.length cap) fs w2) := HX.out.on h2 h1; clear h1 h2 hd0))
        have HAP : Hid (∀ y z u, LS q r w r3 (.slice a fs.length cap) fs y → z.heap.size ≤ y.heap.size → y.ownsRow z.heap.size 3 1 u ts.length (ts.map (Value.int .i64)) → (LS q r w (r2.drop 5) (.slice a fs.length cap) fs z) → ∀ ty, ∃ v' w', (Builtin.append_ #[24, 24] ty #[.slice a fs.length cap, .slice (some ⟨y.heap.size, 0, none⟩) 1 1]).run Tryd.prog (y.alloc (.cells #[.int .i64 0, u] 43)) = .ok v' w' ∧ LS q r w r3 v' (fs ++ [(0, u, ts)]) w') := fun y z u h1 hsz h2 h3 ty => by
          have hal : Below y.heap.size y (y.alloc (.cells #[.int .i64 0, u] 43)) := (Below.refl _ _).alloc (Nat.le_refl _) _
          have hft := h3.new hsz (own_ft h2 rfl (by have := HTS.out; omega))
          have hft2 : FtN (Fq q (.slice a fs.length cap) (y.alloc (.cells #[.int .i64 0, u] 43))) (y.alloc (.cells #[.int .i64 0, u] 43)) u ts := (hft.keep (fun b hb => hal.block b hb.2.1)).mono (fun b hb => ⟨hb.1, Nat.lt_of_lt_of_le hb.2.1 hal.size, hb.2.2⟩)
          exact (h1.on (Up.of hal) (h1.rb.below hal)).app (by have := HLE.out; omega) hft2 (own_dn (h2.alloc _) h3.size) (fun g hg hm => by obtain ⟨f, hf, hfg⟩ := List.mem_filterMap.1 hm; have := ((h3.ow f hf).lt g hfg).2; have := (h2.lt g hg).1; omega) (heap_alloc_new _ _) ty
        go_wp2_with (first
          | (go_at_call 113; refine (HCT.out _ H2.out.up H2.out.rb).mono ?_; rintro e w3 ⟨h1, u, rfl, h2, h3⟩; obtain ⟨ua, uc, rfl⟩ := own_slice' h2; have H3 : Hid (LS q r w r3 (.slice a fs.length cap) fs w3 ∧ w2.heap.size ≤ w3.heap.size ∧ w3.ownsRow w2.heap.size 3 1 (.slice ua ts.length uc) ts.length (ts.map (Value.int .i64))) := ⟨H2.out.on h1 h3, h1.size, h2⟩; clear h1 h2 h3)
          | (at_builtin; go_loud (refine wpList_app _ rfl (.tmp 10) (.tmp 14) 24 24 rfl _ _ rfl rfl (HAP.out w3 w2 _ H3.out.1 H3.out.2.1 H3.out.2.2 H2.out) ?_; rintro v' w4 h1; have H4 : Hid (LS q r w r3 v' (fs ++ [(0, .slice ua ts.length uc, ts)]) w4) := h1; clear h1)))
        obtain ⟨a', cap', rfl⟩ := own_slice' H4.out.own
        refine ⟨⟨_, r3, H4.out, ?_, ?_⟩, ?_⟩
        · rw [lvl_snoc]; exact HR.out.1
        · have := HR.out.2; have := HLE.out; rw [List.length_append]; simp only [List.length_cons, List.length_nil]; omega
        · have := HLE.out; show 5000 - (fs ++ [_]).length < 5000 - fs.length; rw [List.length_append]; simp only [List.length_cons, List.length_nil]; omega
    | false =>
      have hp0 := hp
      have etk0 : tke hA r2 = r2 := by unfold tke; rw [hp]; rfl
      rw [hp, etk0] at CK0
      have HCK0 : Hid _ := CK0
      clear hp etk0 CK0 hx hle
      go_upto_region 5 with (first
        | (go_at_call 101; have HQQ := hd0; refine Calls.mono HCK0.out ?_; rintro e w1 ⟨rfl, h1, h2⟩; have H1 : Hid (LS q r w r2 (.slice a fs.length cap) fs w1) := HX0.out.on h2 h1; have hd1 := HHD.out w1 H1.out.up; clear h1 h2 hd0 HQQ))
      have HX : Hid (LS q r w r2 (.slice a fs.length cap) fs w1) := H1.out
      have CK1 := take_any r r2 (hdr 1) w1 H1.out.rb
      rw [show toL (hdr 1) = hB from rfl] at CK1
      cases hp : pfx hB r2 with
      | true =>
        have etk : tke hB r2 = r2.drop 5 := by unfold tke; rw [hp]; rfl
        have hl2 : (r2.drop 5).length + 5 ≤ r2.length := by
          have := congrArg List.length (pfx_true hp)
          rw [List.length_append] at this
          have e2 : hB.length = 5 := rfl
          rw [e2] at this
          omega
        have CT : ∀ y, Up r w y → RB r (r2.drop 5) y → Calls Tryd.prog 113 #[.pointer (some ⟨r, 0, none⟩)] y (TksP ea r (r2.drop 5) y) := fun y hy hb => tokens_any' r _ (by have := HLE.out; omega) y (fun z hz => HE.out z (hy.trans hz)) hb
        unfold TksP at CT
        rw [hp, etk] at CK1
        have hrl := rowsL_B hp0 hp
        cases ht : toksL (r2.drop 5) with
        | none =>
          have HR : Hid (rowsL l = none) := by show rowsL l = none; rw [hrw, hrl, ht]; rfl
          simp only [ht] at CT
          have HCT : Hid _ := CT
          have HCK1 : Hid _ := CK1
          clear CT CK1 ht hp etk hrl hrw hl2
          go_wp2_with (first
            | (go_at_call 101; refine Calls.mono HCK1.out ?_; rintro e w2 ⟨rfl, h1, h2⟩; have H2 : Hid (LS q r w (r2.drop 5) (.slice a fs.length cap) fs w2) := HX.out.on h2 h1; clear h1 h2)
            | (go_at_call 113; refine (HCT.out _ H2.out.up H2.out.rb).mono ?_; rintro e w3 ⟨h1, rfl⟩; have H3 : Hid (Up r w w3) := H2.out.up.trans h1; clear h1))
          refine ⟨rfl, ?_⟩
          unfold RwsP
          rw [HR.out]
          exact ⟨rfl, H3.out⟩
        | some x =>
          obtain ⟨ts, r3⟩ := x
          have HR : Hid (rowsL l = (rowsL r3).map (fun x => (lvl fs ++ [(1, ts)] ++ x.1, x.2)) ∧ r3.length < (r2.drop 5).length ∧ (r2.drop 5).length + 5 ≤ r2.length) := by
            refine ⟨?_, (toksL_bck ht).2.2.2, hl2⟩
            rw [hrw, hrl, ht]
            simp only
            cases rowsL r3 with
            | none => rfl
            | some y => simp
          have hts : ts.length ≤ 4096 := by
            have := congrArg List.length (toksL_bck ht).1
            have := WL_len ts (toksL_bck ht).2.2.1
            rw [List.length_append] at *
            have := HLE.out
            omega
          simp only [ht] at CT
          have HCT : Hid _ := CT
          have HCK1 : Hid _ := CK1
          have HTS : Hid (ts.length ≤ 4096) := hts
          clear CT CK1 ht hp etk hrl hrw hl2 hts
          go_upto_region 6 with (first
            | (go_at_call 101; refine Calls.mono HCK1.out ?_; rintro e w2 ⟨rfl, h1, h2⟩; have H2 : Hid (LS q r w (r2.drop 5) (.slice a fs.length cap) fs w2) := HX.out.on h2 h1; clear h1 h2 hd1))
          have HAP : Hid (∀ y z u, LS q r w r3 (.slice a fs.length cap) fs y → z.heap.size ≤ y.heap.size → y.ownsRow z.heap.size 3 1 u ts.length (ts.map (Value.int .i64)) → (LS q r w (r2.drop 5) (.slice a fs.length cap) fs z) → ∀ ty, ∃ v' w', (Builtin.append_ #[24, 24] ty #[.slice a fs.length cap, .slice (some ⟨y.heap.size, 0, none⟩) 1 1]).run Tryd.prog (y.alloc (.cells #[.int .i64 1, u] 43)) = .ok v' w' ∧ LS q r w r3 v' (fs ++ [(1, u, ts)]) w') := fun y z u h1 hsz h2 h3 ty => by
            have hal : Below y.heap.size y (y.alloc (.cells #[.int .i64 1, u] 43)) := (Below.refl _ _).alloc (Nat.le_refl _) _
            have hft := h3.new hsz (own_ft h2 rfl (by have := HTS.out; omega))
            have hft2 : FtN (Fq q (.slice a fs.length cap) (y.alloc (.cells #[.int .i64 1, u] 43))) (y.alloc (.cells #[.int .i64 1, u] 43)) u ts := (hft.keep (fun b hb => hal.block b hb.2.1)).mono (fun b hb => ⟨hb.1, Nat.lt_of_lt_of_le hb.2.1 hal.size, hb.2.2⟩)
            exact (h1.on (Up.of hal) (h1.rb.below hal)).app (by have := HLE.out; omega) hft2 (own_dn (h2.alloc _) h3.size) (fun g hg hm => by obtain ⟨f, hf, hfg⟩ := List.mem_filterMap.1 hm; have := ((h3.ow f hf).lt g hfg).2; have := (h2.lt g hg).1; omega) (heap_alloc_new _ _) ty
          go_wp2_with (first
            | (go_at_call 113; refine (HCT.out _ H2.out.up H2.out.rb).mono ?_; rintro e w3 ⟨h1, u, rfl, h2, h3⟩; obtain ⟨ua, uc, rfl⟩ := own_slice' h2; have H3 : Hid (LS q r w r3 (.slice a fs.length cap) fs w3 ∧ w2.heap.size ≤ w3.heap.size ∧ w3.ownsRow w2.heap.size 3 1 (.slice ua ts.length uc) ts.length (ts.map (Value.int .i64))) := ⟨H2.out.on h1 h3, h1.size, h2⟩; clear h1 h2 h3)
            | (at_builtin; go_loud (refine wpList_app _ rfl (.tmp 21) (.tmp 25) 24 24 rfl _ _ rfl rfl (HAP.out w3 w2 _ H3.out.1 H3.out.2.1 H3.out.2.2 H2.out) ?_; rintro v' w4 h1; have H4 : Hid (LS q r w r3 v' (fs ++ [(1, .slice ua ts.length uc, ts)]) w4) := h1; clear h1)))
          obtain ⟨a', cap', rfl⟩ := own_slice' H4.out.own
          refine ⟨⟨_, r3, H4.out, ?_, ?_⟩, ?_⟩
          · rw [lvl_snoc]; exact HR.out.1
          · have := HR.out.2; have := HLE.out; rw [List.length_append]; simp only [List.length_cons, List.length_nil]; omega
          · have := HLE.out; show 5000 - (fs ++ [_]).length < 5000 - fs.length; rw [List.length_append]; simp only [List.length_cons, List.length_nil]; omega
      | false =>
        have etk : tke hB r2 = r2 := by unfold tke; rw [hp]; rfl
        rw [hp, etk] at CK1
        have HCK1 : Hid _ := CK1
        have HR : Hid (rowsL l = some (lvl fs, r2)) := by
          show rowsL l = _
          rw [hrw, rowsL_no hp0 hp]
          simp
        clear CK1 hp etk hrw hp0
        go_wp2_with (first
          | (go_at_call 101; refine Calls.mono HCK1.out ?_; rintro e w2 ⟨rfl, h1, h2⟩; have H2 : Hid (LS q r w r2 (.slice a fs.length cap) fs w2) := HX.out.on h2 h1; clear h1 h2))
        go_ret
        unfold RwsP
        rw [HR.out]
        exact ⟨_, fs, rfl, rfl, by rw [HL.out.2]; exact H2.out⟩
end Go.Proofs.YtjhleocpipmklaaDoor
