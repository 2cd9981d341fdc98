import Derived.Deep.RegionHeld3
import Derived.Test.YtjhleocpipmklaaDoorMjaa
import Derived.Test.YtjhleocpipmklaaDoorMjab
namespace Go.Proofs.YtjhleocpipmklaaDoor
set_option linter.unusedSimpArgs false
set_option linter.unusedVariables false
open Go.ChangeShapes Go.WideShapes Go.ChangeAt Go.RowKit Go.Pin Go.Pat
/-- a pattern's box -/
structure PB (q : Nat) (w : World) (nm : ByteArray) (v0 v1 vl : Value) (wr : World) : Prop where
  old : Below q w wr
  lt : q < wr.heap.size
  row : wr.heap[q]? = some (.cells #[.string nm, v0, v1, vl] 26)
theorem pb_start (w : World) (nm : ByteArray) (v0 v1 vl : Value) : PB w.heap.size w nm v0 v1 vl (w.alloc (.cells #[.string nm, v0, v1, vl] 26)) :=
  ⟨(Below.refl _ _).alloc (Nat.le_refl _) _, by simp [size_alloc], heap_alloc_new _ _⟩
section
variable {q : Nat} {w wr w' : World} {nm : ByteArray} {v0 v1 vl : Value}
theorem PB.c0 (h : PB q w nm v0 v1 vl wr) : wr.cell? ⟨q, 0, none⟩ = some (.string nm) := by rw [cell_of_row _ _ _ _ _ _ h.row]; rfl
theorem PB.c1 (h : PB q w nm v0 v1 vl wr) : wr.cell? ⟨q, 1, none⟩ = some v0 := by rw [cell_of_row _ _ _ _ _ _ h.row]; rfl
theorem PB.c2 (h : PB q w nm v0 v1 vl wr) : wr.cell? ⟨q, 2, none⟩ = some v1 := by rw [cell_of_row _ _ _ _ _ _ h.row]; rfl
theorem PB.c3 (h : PB q w nm v0 v1 vl wr) : wr.cell? ⟨q, 3, none⟩ = some vl := by rw [cell_of_row _ _ _ _ _ _ h.row]; rfl
theorem PB.below (h : PB q w nm v0 v1 vl wr) (hb : Below wr.heap.size wr w') : PB q w nm v0 v1 vl w' :=
  ⟨h.old.trans (hb.mono (by have := h.lt; omega)), Nat.lt_of_lt_of_le h.lt hb.size, (hb.block _ h.lt).trans h.row⟩
end
theorem RdL.len {w : World} {a : Option Addr} {n cap : Nat} {L : List Ln} (h : RdL w (.slice a n cap) L) : L.length = n ∧ n ≤ 140737488355328 := by
  obtain ⟨a', c', e, _, h2, _⟩ := h
  injection e with _ e2 _
  exact ⟨e2.symm, by omega⟩
theorem RdL.at {w : World} {a : Option Addr} {n cap : Nat} {L : List Ln} (h : RdL w (.slice a n cap) L) {j : Nat} (hj : j < n) : ∃ b o a2 n2 c2, a = some ⟨b, o, none⟩ ∧ (∀ W, Below w.heap.size w W → W.cell? ⟨b, o + j * 2, none⟩ = some (.int .i64 (L.getD j (0, [])).1) ∧ W.cell? ⟨b, o + j * 2 + 1, none⟩ = some (.slice a2 n2 c2)) ∧ RdN w (.slice a2 n2 c2) (L.getD j (0, [])).2 ∧ n2 = (L.getD j (0, [])).2.length := by
  obtain ⟨a', c', e, _, _, h3⟩ := h
  injection e with e1 e2 e3
  subst e1 e2 e3
  obtain ⟨b, o, u, g1, g2, g3, g4⟩ := h3 j hj
  obtain ⟨a2, c2, rfl, _⟩ := id g4
  exact ⟨b, o, a2, _, c2, g1, fun W hW => ⟨cell_below hW g2, cell_below hW g3⟩, g4, rfl⟩
set_option maxRecDepth 100000 in
theorem oneWay_any (v : Value) (p : Pt) (w : World) (h : RdP w v p) :
    Calls Tryd.prog 52 #[v] w fun e w' => e = .returned (.bool (oneWay p)) ∧ Below w.heap.size w w' := by
  obtain ⟨v0, v1, vl, rfl, _, _, hl⟩ := h
  obtain ⟨al, cl, rfl, _, hm, _⟩ := id hl
  obtain ⟨nm, b0, b1, L⟩ := p
  have hat := fun j (hj : j < L.length) => hl.at hj
  simp only at hl hm hat ⊢
  match L, hm, hat with
  | [], _, _ =>
    clear hl hat hm
    go_enter Tryd.func52, Tryd.ntmps52
    go_wp2
    go_ret
    exact ⟨rfl, (Below.refl _ _).alloc (Nat.le_refl _) _⟩
  | [(f, ts)], _, hat =>
    obtain ⟨b, o, a2, n2, c2, rfl, hc, _, _⟩ := hat 0 (by simp)
    have c0 := (hc (w.alloc (.cells #[.string nm, v0, v1, .slice (some ⟨b, o, none⟩) 1 cl] 26)) ((Below.refl _ _).alloc (Nat.le_refl _) _)).1
    simp only [List.getD_cons_zero, Nat.zero_mul, Nat.add_zero] at c0
    clear hl hat hm hc
    go_enter Tryd.func52, Tryd.ntmps52
    go_wp2
    all_goals
      go_ret
      exact ⟨by simp_all [oneWay], (Below.refl _ _).alloc (Nat.le_refl _) _⟩
  | x :: y :: r, _, _ =>
    have b1 : ¬ ((r.length + 1 + 1 : Nat) : Int) = 1 := by omega
    simp only [List.length_cons]
    generalize r.length + 1 + 1 = n at *
    clear hl hat hm
    go_enter Tryd.func52, Tryd.ntmps52
    go_wp2
    go_ret
    exact ⟨by simp_all [oneWay], (Below.refl _ _).alloc (Nat.le_refl _) _⟩
end Go.Proofs.YtjhleocpipmklaaDoor
namespace Go.Proofs.YtjhleocpipmklaaDoor
set_option linter.unusedSimpArgs false
set_option linter.unusedVariables false
open Go.ChangeShapes Go.WideShapes Go.ChangeAt Go.RowKit Go.Pin Go.Pat
/-- a line's box beside the pattern's -/
structure LB (q m : Nat) (w : World) (nm : ByteArray) (v0 v1 vl : Value) (f : Int) (vt : Value) (wr : World) : Prop where
  pb : PB q w nm v0 v1 vl wr
  ne : q < m
  lt : m < wr.heap.size
  row : wr.heap[m]? = some (.cells #[.int .i64 f, vt] 43)
section
variable {q m : Nat} {w wr w' : World} {nm : ByteArray} {v0 v1 vl : Value} {f : Int} {vt : Value}
theorem LB.c0 (h : LB q m w nm v0 v1 vl f vt wr) : wr.cell? ⟨m, 0, none⟩ = some (.int .i64 f) := by rw [cell_of_row _ _ _ _ _ _ h.row]; rfl
theorem LB.c1 (h : LB q m w nm v0 v1 vl f vt wr) : wr.cell? ⟨m, 1, none⟩ = some vt := by rw [cell_of_row _ _ _ _ _ _ h.row]; rfl
theorem LB.drewN (h : LB q m w nm v0 v1 vl f vt wr) (n : Nat) : LB q m w nm v0 v1 vl f vt (wr.drewN n) := ⟨⟨drewN_below h.pb.old n, h.pb.lt, h.pb.row⟩, h.ne, h.lt, h.row⟩
theorem lb_start (h : PB q w nm v0 v1 vl wr) (f : Int) (vt : Value) : LB q wr.heap.size w nm v0 v1 vl f vt (wr.alloc (.cells #[.int .i64 f, vt] 43)) :=
  ⟨h.below ((Below.refl _ _).alloc (Nat.le_refl _) _), h.lt, by simp [size_alloc], heap_alloc_new _ _⟩
end
def badL (L : List Ln) (k : Nat) (f : Int) (n2 : Nat) : Bool := decide (¬ (f = 0 ∨ f = 1)) || decide (pv L k = some f) || decide (n2 = 0)
set_option maxRecDepth 100000 in
set_option maxHeartbeats 4000000 in
theorem shaped_any (v : Value) (p : Pt) (w : World) (h : RdP w v p) :
    Calls Tryd.prog 48 #[v] w fun e w' => e = .returned (.bool (shaped p)) ∧ Below w.heap.size w w' := by
  obtain ⟨v0, v1, vl, rfl, h0, h1, hl⟩ := h
  obtain ⟨al, cl, rfl, _, hm, _⟩ := id hl
  obtain ⟨nm, b0, b1, L⟩ := p
  have hst := pb_start w nm v0 v1 (.slice al L.length cl)
  have hb0 := hst.old
  have H0 := fun (W : World) (hW : Below w.heap.size w W) => ahead_any v0 b0 W (h0.below hW)
  have H1 := fun (W : World) (hW : Below w.heap.size w W) => ahead_any v1 b1 W (h1.below hW)
  obtain ⟨q, hq⟩ : ∃ q, w.heap.size = q := ⟨_, rfl⟩
  obtain ⟨W, hW⟩ : ∃ W, w.alloc (.cells #[.string nm, v0, v1, .slice al L.length cl] 26) = W := ⟨_, rfl⟩
  have hat := fun j (hj : j < L.length) => hl.at hj
  obtain ⟨n, hn⟩ : ∃ n, L.length = n := ⟨_, rfl⟩
  simp only [hn, hq] at hst hb0 hat hm hW H0 H1 ⊢
  rw [hW] at hst hb0
  have c1 := hst.c1
  have c2 := hst.c2
  have c3 := hst.c3
  have HP : Hid (PB q w nm v0 v1 (.slice al n cl) W) := hst
  have HAT : Hid (∀ j, j < n → _) := hat
  have HN : Hid (L.length = n) := hn
  have HM : Hid (n ≤ 140737488355328) := hm
  have A0 := H0 W hb0
  have A1 := H1 W hb0
  rcases e0 : ahd b0 with _ | _
  · rw [e0] at A0
    have HR : Hid (shaped ⟨nm, b0, b1, L⟩ = false) := by
      show shaped _ = false
      simp [shaped, e0]
    clear hst hat hm h0 h1 hl H0 H1 A1 hb0
    go_enter Tryd.func48, Tryd.ntmps48
    go_wp2_with (go_at_call 71; refine A0.mono ?_; rintro e w' ⟨rfl, rfl⟩)
    go_ret
    exact ⟨by rw [HR.out]; rfl, HP.out.old⟩
  rcases e1 : ahd b1 with _ | _
  · rw [e0] at A0
    rw [e1] at A1
    have HR : Hid (shaped ⟨nm, b0, b1, L⟩ = false) := by
      show shaped _ = false
      simp [shaped, e1]
    clear hst hat hm h0 h1 hl H0 H1 hb0
    go_enter Tryd.func48, Tryd.ntmps48
    go_wp2_with (go_at_call 71; first | (with_reducible refine A0.mono ?_; rintro e w' ⟨rfl, rfl⟩) | (with_reducible refine A1.mono ?_; rintro e w' ⟨rfl, rfl⟩))
    go_ret
    exact ⟨by rw [HR.out]; rfl, HP.out.old⟩
  rw [e0] at A0
  rw [e1] at A1
  by_cases hz : n = 0
  · subst hz
    have HR : Hid (shaped ⟨nm, b0, b1, L⟩ = false) := by
      show shaped _ = false
      simp [shaped, List.length_eq_zero_iff.1 hn]
    clear hst hat hm h0 h1 hl H0 H1 hb0
    go_enter Tryd.func48, Tryd.ntmps48
    go_wp2_with (go_at_call 71; first | (with_reducible refine A0.mono ?_; rintro e w' ⟨rfl, rfl⟩) | (with_reducible refine A1.mono ?_; rintro e w' ⟨rfl, rfl⟩))
    go_ret
    exact ⟨by rw [HR.out]; rfl, HP.out.old⟩
  have HR : Hid (shaped ⟨nm, b0, b1, L⟩ = shp none 0 L) := by
    show shaped _ = _
    have : L ≠ [] := by rintro rfl; simp at hn; omega
    simp [shaped, e0, e1, this]
  have hz' : ¬ (n : Int) = 0 := by omega
  have hzb : ((n : Int) == 0) = false := by simpa using hz'
  clear hst hat hm h0 h1 hl H0 H1 hb0 e0 e1
  go_enter Tryd.func48, Tryd.ntmps48
  go_wp2_with (go_at_call 71; first | (with_reducible refine A0.mono ?_; rintro e w' ⟨rfl, rfl⟩) | (with_reducible refine A1.mono ?_; rintro e w' ⟨rfl, rfl⟩))
  clear A0 A1 c1 c2 c3
  go_loopw [3, 4] (fun vn vi w' => ∃ k : Nat, k ≤ n ∧ vi = .int .i64 k ∧ vn = .int .i64 ((tl L k : Nat) : Int) ∧ tl L k ≤ 24 ∧ shp none 0 L = shp (pv L k) (tl L k) (L.drop k) ∧ PB q w nm v0 v1 (.slice al n cl) w') (fun _ v _ => n - (intOf v).toNat)
  case atStart => exact ⟨0, Nat.zero_le _, rfl, rfl, by simp [tl], rfl, HP.out⟩
  case round =>
    obtain ⟨k, hk, rfl, rfl, ht, hs, hp⟩ := hrel
    have c3 := hp.c3
    by_cases hlt : k < n
    · obtain ⟨b, o, a2, n2, c2, rfl, hc, hrn, hn2⟩ := HAT.out k hlt
      have d0 := hc wr hp.old
      have x0 := d0.1
      have x1 := d0.2
      have b1 : (k : Int) < (n : Int) := by omega
      have HPW : Hid (PB q w nm v0 v1 (.slice (some ⟨b, o, none⟩) n cl) wr) := hp
      have HS : Hid (shp none 0 L = shp (pv L k) (tl L k) (L.drop k)) := hs
      have HT : Hid (tl L k ≤ 24) := ht
      have HRN : Hid (RdN w (.slice a2 n2 c2) (L.getD k (0, [])).2 ∧ n2 = (L.getD k (0, [])).2.length) := ⟨hrn, hn2⟩
      clear hp hs ht hrn hn2 d0 hc
      obtain ⟨f, hf⟩ : ∃ f, (L.getD k (0, [])).1 = f := ⟨_, rfl⟩
      rw [hf] at x0
      go_upto_region 8 with fail
      have hlb := lb_start HPW.out f (.slice a2 n2 c2)
      obtain ⟨m, hm2⟩ : ∃ m, wr.heap.size = m := ⟨_, rfl⟩
      obtain ⟨W1, hW1⟩ : ∃ W1, wr.alloc (.cells #[.int .i64 f, .slice a2 n2 c2] 43) = W1 := ⟨_, rfl⟩
      rw [hm2, hW1] at hlb
      simp only [hm2, hW1]
      have HL : Hid (LB q m w nm v0 v1 (.slice (some ⟨b, o, none⟩) n cl) f (.slice a2 n2 c2) W1) := hlb
      have y0 := hlb.c0
      have y1 := hlb.c1
      have y3 := hlb.pb.c3
      have HMM : Hid (wr.heap.size = m) := hm2
      clear hlb hm2 hW1 x0 x1
      go_cut [66] (fun v wx => v = .bool (badL L k f n2) ∧ LB q m w nm v0 v1 (.slice (some ⟨b, o, none⟩) n cl) f (.slice a2 n2 c2) wx)
      case first =>
        by_cases h01 : f = 0 ∨ f = 1
        · by_cases hk0 : k = 0
          · subst hk0
            by_cases hn0 : n2 = 0
            · subst hn0
              rcases h01 with rfl | rfl
              all_goals
                go_quiet (fail)
                go_wp2
                go_meet
                case rel => exact ⟨by simp [badL, pv], HL.out.drewN _⟩
            · have b3 : ¬ (n2 : Int) = 0 := by omega
              rcases h01 with rfl | rfl
              all_goals
                go_quiet (fail)
                go_wp2
                go_meet
                case rel => exact ⟨by simp [badL, pv, hn0], HL.out.drewN _⟩
          · obtain ⟨k', rfl⟩ : ∃ k', k = k' + 1 := ⟨k - 1, by omega⟩
            obtain ⟨b', o', a3, n3, c3, e, hc, _, _⟩ := HAT.out k' (by omega)
            injection e with e
            injection e with e1 e2
            subst e1 e2
            have z0 := (hc W1 HL.out.pb.old).1
            obtain ⟨f', hf'⟩ : ∃ f', (L.getD k' (0, [])).1 = f' := ⟨_, rfl⟩
            rw [hf'] at z0
            have HV : Hid (pv L (k' + 1) = some f') := by show pv L (k' + 1) = some f'; simp [pv, ← hf']
            clear hc hf'
            have bk : (0 : Int) < ((k' + 1 : Nat) : Int) := by omega
            have bw : IntKind.i64.wrap (((k' + 1 : Nat) : Int) - 1) = (k' : Int) := by rw [IntWalk.i64_in _ ⟨by omega, by have := HM.out; omega⟩]; omega
            have bw' : wrap64 (((k' + 1 : Nat) : Int) - 1) = (k' : Int) := by rw [IntWalk.wrap64_in _ ⟨by omega, by have := HM.out; omega⟩]; omega
            have bkn : (k' : Int) < (n : Int) := by omega
            obtain ⟨kk, hkk⟩ : ∃ kk, ((k' + 1 : Nat) : Int) = kk := ⟨_, rfl⟩
            simp only [hkk] at b1 bk bw bw' ⊢
            have HKK : Hid (((k' + 1 : Nat) : Int) = kk) := hkk
            clear hkk
            by_cases hff : f = f'
            · subst hff
              rcases h01 with rfl | rfl
              all_goals
                go_quiet (fail)
                go_wp2
                have hkk := HKK.out; subst hkk; go_meet
                case rel => exact ⟨by simp [badL, HV.out], HL.out.drewN _⟩
            · have hfb : (f == f') = false := by simpa using hff
              have hff2 : ¬ f' = f := fun e => hff e.symm
              by_cases hn0 : n2 = 0
              · subst hn0
                rcases h01 with rfl | rfl
                all_goals
                  go_quiet (fail)
                  go_wp2
                  have hkk := HKK.out; subst hkk; go_meet
                  case rel => exact ⟨by simp [badL, HV.out], HL.out.drewN _⟩
              · have b3 : ¬ (n2 : Int) = 0 := by omega
                rcases h01 with rfl | rfl
                all_goals
                  go_quiet (fail)
                  go_wp2
                  have hkk := HKK.out; subst hkk; go_meet
                  case rel => exact ⟨by simp [badL, HV.out, hn0, Ne.symm hff], HL.out.drewN _⟩
        · have g0 : ¬ f = 0 := by omega
          have g1 : ¬ f = 1 := by omega
          have g0b : (f == 0) = false := by simpa using g0
          have g1b : (f == 1) = false := by simpa using g1
          have g0n : (f != 0) = true := by simpa using g0
          have g1n : (f != 1) = true := by simpa using g1
          have HH : Hid (¬ (f = 0 ∨ f = 1)) := h01
          clear h01 hf
          go_quiet (fail)
          go_wp2
          go_meet
          case rel => exact ⟨by simp [badL, HH.out], HL.out.drewN _⟩
      case rest =>
        obtain ⟨rfl, hL⟩ := hcut
        clear HL y0 y1 y3
        have hat := shp_at L k (by rw [HN.out]; exact hlt)
        rw [← HS.out, hf] at hat
        have htl := tl_succ L k (by rw [HN.out]; exact hlt)
        obtain ⟨ts, hts⟩ : ∃ ts, (L.getD k (0, [])).2 = ts := ⟨_, rfl⟩
        have hrn := HRN.out.1
        have hn2 := HRN.out.2
        rw [hts] at hat htl hrn hn2
        have hta := hrn.at
        rw [hq] at hta
        have c0 := hL.c0
        have c1 := hL.c1
        have HLW : Hid (LB q m w nm v0 v1 (.slice (some ⟨b, o, none⟩) n cl) f (.slice a2 n2 c2) wc) := hL
        have HAS : Hid (shp none 0 L = ((decide (f = 0 ∨ f = 1) && decide (pv L k ≠ some f) && !ts.isEmpty && decide (tl L (k + 1) ≤ 24) && ts.all isTok) && shp (pv L (k + 1)) (tl L (k + 1)) (L.drop (k + 1)))) := hat
        have HTA : Hid (n2 = ts.length ∧ n2 ≤ 140737488355328 ∧ ∀ j, j < n2 → ∃ b o, a2 = some ⟨b, o, none⟩ ∧ ∀ W, Below q w W → W.cell? ⟨b, o + j, none⟩ = some (.int .i64 (ts.getD j 0))) := hta
        have hw1 : IntKind.i64.wrap (((tl L k : Nat) : Int) + (n2 : Int)) = ((tl L (k + 1) : Nat) : Int) := by
          rw [htl, ← hn2]; rw [IntWalk.i64_in _ ⟨by omega, by have := HT.out; have := hta.2.1; omega⟩]; omega
        have hw2 : wrap64 (((tl L k : Nat) : Int) + (n2 : Int)) = ((tl L (k + 1) : Nat) : Int) := by
          rw [htl, ← hn2]; rw [IntWalk.wrap64_in _ ⟨by omega, by have := HT.out; have := hta.2.1; omega⟩]; omega
        clear hat hrn hta hL htl HRN HS
        rcases hbad : badL L k f n2 with _ | _
        · have HB : Hid (badL L k f n2 = false) := hbad
          obtain ⟨t0, ht0⟩ : ∃ t0, tl L k = t0 := ⟨_, rfl⟩
          obtain ⟨t1, ht1⟩ : ∃ t1, tl L (k + 1) = t1 := ⟨_, rfl⟩
          rw [ht0, ht1] at hw1 hw2
          rw [ht0]
          have HT1 : Hid (tl L (k + 1) = t1) := ht1
          clear hbad hn2 ht0 ht1
          by_cases hgt : 24 < t1
          · have b2 : (24 : Int) < (t1 : Int) := by omega
            have HF : Hid (shp none 0 L = false) := by
              show shp none 0 L = false
              rw [HAS.out, HT1.out, show decide (t1 ≤ 24) = false from decide_eq_false (by omega)]
              simp
            clear hw2
            go_wp2
            go_ret
            exact ⟨by rw [HR.out, HF.out]; rfl, HLW.out.pb.old⟩
          · have b2 : ¬ (24 : Int) < (t1 : Int) := by omega
            have HT24 : Hid (t1 ≤ 24) := by show t1 ≤ 24; omega
            go_wp2
            clear hw1 hw2 b2
            go_loopw [6] (fun vj wy => ∃ j : Nat, j ≤ n2 ∧ vj = .int .i64 j ∧ (ts.take j).all isTok = true ∧ wy = wc) (fun v _ => n2 - (intOf v).toNat)
            case atStart => exact ⟨0, Nat.zero_le _, rfl, by simp, rfl⟩
            case round =>
              obtain ⟨j, hj, rfl, hall, rfl⟩ := hrel
              by_cases hjl : j < n2
              · obtain ⟨b', o', rfl, hcj⟩ := HTA.out.2.2 j hjl
                have cj := hcj _ HLW.out.pb.old
                have hjs : j < ts.length := by have := HTA.out.1; omega
                have hsn : (ts.take (j + 1)).all isTok = ((ts.take j).all isTok && isTok (ts.getD j 0)) := by
                  rw [List.take_add_one, List.all_append, List.getElem?_eq_getElem hjs]
                  simp [List.getD, hjs]
                have HSN : Hid _ := hsn
                have HAL : Hid ((ts.take j).all isTok = true) := hall
                have b4 : (j : Int) < (n2 : Int) := by omega
                have HJ : Hid (j < n2 ∧ n2 ≤ 140737488355328) := ⟨hjl, HTA.out.2.1⟩
                obtain ⟨t, ht⟩ : ∃ t, ts.getD j 0 = t := ⟨_, rfl⟩
                rw [ht] at cj
                have HTT : Hid (ts.getD j 0 = t) := ht
                clear hcj hsn hall ht
                by_cases hok : 1 ≤ t ∧ t ≤ 7
                · have t1' : ¬ t < 1 := by omega
                  have t7' : ¬ 7 < t := by omega
                  have HOK : Hid (isTok t = true) := by show isTok t = true; simp [isTok, hok]
                  go_wp2
                  exact ⟨⟨j + 1, HJ.out.1, congrArg (Value.int .i64) (wrapS HJ.out.1 HJ.out.2), by rw [HSN.out, HAL.out, HTT.out, HOK.out]; rfl, trivial⟩, measS HJ.out.1 HJ.out.2⟩
                · have HF : Hid (shp none 0 L = false) := by
                    show shp none 0 L = false
                    have hnt : isTok (ts.getD j 0) = false := by rw [HTT.out]; simp only [isTok]; exact decide_eq_false hok
                    have : ts.all isTok = false := by
                      rw [List.all_eq_false]
                      exact ⟨ts[j], List.getElem_mem _, by simpa [List.getD, hjs] using hnt⟩
                    rw [HAS.out, this]
                    simp
                  by_cases ht1 : t < 1
                  · go_wp2
                    go_ret
                    exact ⟨by rw [HR.out, HF.out]; rfl, HLW.out.pb.old⟩
                  · have t7' : 7 < t := by omega
                    go_wp2
                    go_ret
                    exact ⟨by rw [HR.out, HF.out]; rfl, HLW.out.pb.old⟩
              · have b4 : ¬ (j : Int) < (n2 : Int) := by omega
                have HNX : Hid (shp none 0 L = shp (pv L (k + 1)) (tl L (k + 1)) (L.drop (k + 1))) := by
                  show shp none 0 L = _
                  have e1 : ts.take j = ts := List.take_of_length_le (by have := HTA.out.1; omega)
                  rw [e1] at hall
                  have hb := HB.out
                  simp only [badL, Bool.or_eq_false_iff, decide_eq_false_iff_not, Decidable.not_not] at hb
                  have hne : ts.isEmpty = false := by
                    cases ts with
                    | nil => exfalso; exact hb.2 HTA.out.1
                    | cons => rfl
                  rw [HAS.out, HT1.out, hall, hne, show decide (t1 ≤ 24) = true from decide_eq_true HT24.out, show decide (f = 0 ∨ f = 1) = true from decide_eq_true hb.1.1, show decide (pv L k ≠ some f) = true from decide_eq_true hb.1.2]
                  simp
                have HK : Hid (k < n ∧ n ≤ 140737488355328) := ⟨hlt, HM.out⟩
                clear hall
                go_wp2
                first | exact ⟨⟨k + 1, HK.out.1, congrArg (Value.int .i64) (wrapS HK.out.1 HK.out.2), by rw [HT1.out], by rw [HT1.out]; exact HT24.out, HNX.out, HLW.out.pb⟩, measS HK.out.1 HK.out.2⟩ | exact ⟨⟨_, _, _, ⟨k + 1, HK.out.1, congrArg (Value.int .i64) (wrapS HK.out.1 HK.out.2), by rw [HT1.out], by rw [HT1.out]; exact HT24.out, HNX.out, HLW.out.pb⟩, rfl, rfl, rfl⟩, measS HK.out.1 HK.out.2⟩
        · have HB : Hid (badL L k f n2 = true) := hbad
          have HF : Hid (shp none 0 L = false) := by
            show shp none 0 L = false
            rw [HAS.out]
            simp only [badL, Bool.or_eq_true, decide_eq_true_eq] at hbad
            rcases hbad with (h | h) | h
            · simp [h]
            · simp [h]
            · have : ts = [] := List.length_eq_zero_iff.1 (by omega)
              simp [this]
          clear hw2 hw1 hn2 hbad
          go_wp2
          go_ret
          exact ⟨by rw [HR.out, HF.out]; rfl, HLW.out.pb.old⟩
    · have b1 : ¬ (k : Int) < (n : Int) := by omega
      have HF : Hid (shp none 0 L = true) := by
        show shp none 0 L = true
        rw [hs, List.drop_eq_nil_of_le (by rw [HN.out]; omega)]
        simp [shp]
      have HPW : Hid (Below q w wr) := hp.old
      clear hp ht hs
      go_wp2
      go_ret
      exact ⟨by rw [HR.out, HF.out]; rfl, HPW.out⟩
end Go.Proofs.YtjhleocpipmklaaDoor
namespace Go.Proofs.YtjhleocpipmklaaDoor
set_option linter.unusedSimpArgs false
set_option linter.unusedVariables false
open Go.ChangeShapes Go.WideShapes Go.ChangeAt Go.RowKit Go.Pin Go.Pat
/-- begin's boxes -/
structure BG (q : Nat) (w : World) (nm : ByteArray) (v0 v1 vl : Value) (x : Sn) (wr : World) : Prop where
  pb : PB q w nm v0 v1 vl wr
  lt : q + 2 < wr.heap.size
  hr : wr.heap[q + 1]? = some (.cells (BV Sn0) 90)
  hx : wr.heap[q + 2]? = some (.cells (BV x) 90)
section
variable {q : Nat} {w wr w' : World} {nm : ByteArray} {v0 v1 vl : Value} {x : Sn}
theorem BG.set (h : BG q w nm v0 v1 vl x wr) (i : Nat) (b : Bool) : BG q w nm v0 v1 vl (x.set i b) (wr.setCell ⟨q + 2, i, none⟩ (.bool b)) := by
  refine ⟨⟨h.pb.old.setCell (by show q ≤ q + 2; omega) _, by simpa using h.pb.lt, (heap_setCell_other _ _ _ _ (by simp)).trans h.pb.row⟩, by simpa using h.lt, (heap_setCell_other _ _ _ _ (by simp)).trans h.hr, ?_⟩
  rw [Go.heap_setCell_same _ _ _ _ _ _ h.hx]
  simp
theorem BG.cell (h : BG q w nm v0 v1 vl x wr) {i : Nat} (hi : i < x.length) : wr.cell? ⟨q + 2, i, none⟩ = some (.bool (B x i)) := by
  rw [cell_of_row _ _ _ _ _ _ h.hx]
  simp [B, List.getD, hi]
theorem BG.free (h : BG q w nm v0 v1 vl x wr) (i : Nat) : wr.frozen? ⟨q + 2, i, none⟩ = false := frozen_of_row _ _ _ _ _ h.hx
end
theorem bg_start (w : World) (nm : ByteArray) (v0 v1 vl : Value) : BG w.heap.size w nm v0 v1 vl Sn0 (((w.alloc (.cells #[.string nm, v0, v1, vl] 26)).alloc (.cells (BV Sn0) 90)).alloc (.cells (BV Sn0) 90)) := by
  refine ⟨⟨(((Below.refl _ _).alloc (Nat.le_refl _) _).alloc (by simp) _).alloc (by simp; omega) _, by simp [size_alloc]; omega, ?_⟩, by simp [size_alloc], ?_, ?_⟩
  all_goals simp only [heap_alloc_any, size_alloc]
  · rw [if_neg (by omega), if_neg (by omega), if_pos trivial]
  · rw [if_neg (by omega), if_pos trivial]
  · rw [if_pos trivial]
theorem bg_snoc (s : Nat) (X : Sn) (C : List Int) (j : Nat) (h : j < C.length) : bg s X (C.take (j + 1)) = (if C.getD j 0 = 1 then (bg s X (C.take j)).set s true else (bg s X (C.take j)).set (2 + s) true) := by
  unfold bg
  rw [List.take_add_one, List.getElem?_eq_getElem h, List.foldl_append]
  simp [List.getD, h]
theorem szS {x : Sn} (h : x.length = 12) : (BV Sn0).size = (BV x).size := by rw [show (BV Sn0).size = 12 from by simp [Sn0]]; simp [h]
set_option maxRecDepth 100000 in
set_option maxHeartbeats 4000000 in
theorem begin_any (v : Value) (p : Pt) (w : World) (h : RdP w v p) :
    Calls Tryd.prog 49 #[v] w fun e w' => e = .returned (SV (beg p)) ∧ Below w.heap.size w w' := by
  obtain ⟨v0, v1, vl, rfl, h0, h1, hl⟩ := h
  obtain ⟨nm, b0, b1, L⟩ := p
  obtain ⟨a0, p0, rfl, _, _, _⟩ := id h0
  obtain ⟨a1, p1, rfl, _, _, _⟩ := id h1
  have hst := bg_start w nm (.slice a0 b0.length p0) (.slice a1 b1.length p1) vl
  have k0 := h0.at
  have k1 := h1.at
  obtain ⟨q, hq⟩ : ∃ q, w.heap.size = q := ⟨_, rfl⟩
  obtain ⟨n0, hn0⟩ : ∃ n0, b0.length = n0 := ⟨_, rfl⟩
  obtain ⟨n1, hn1⟩ : ∃ n1, b1.length = n1 := ⟨_, rfl⟩
  simp only [hq, hn0, hn1] at hst k0 k1 ⊢
  obtain ⟨W, hW⟩ : ∃ W, ((w.alloc (.cells #[.string nm, .slice a0 n0 p0, .slice a1 n1 p1, vl] 26)).alloc (.cells (BV Sn0) 90)).alloc (.cells (BV Sn0) 90) = W := ⟨_, rfl⟩
  rw [hW] at hst
  have hW' : ((w.alloc (.cells #[.string nm, .slice a0 n0 p0, .slice a1 n1 p1, vl] 26)).alloc (.cells #[.bool false, .bool false, .bool false, .bool false, .bool false, .bool false, .bool false, .bool false, .bool false, .bool false, .bool false, .bool false] 90)).alloc (.cells #[.bool false, .bool false, .bool false, .bool false, .bool false, .bool false, .bool false, .bool false, .bool false, .bool false, .bool false, .bool false] 90) = W := hW
  have HS : Hid (BG q w nm (.slice a0 n0 p0) (.slice a1 n1 p1) vl Sn0 W) := hst
  have K0 : Hid _ := k0.2
  have K1 : Hid _ := k1.2
  have HN0 : Hid (b0.length = n0) := hn0
  have HN1 : Hid (b1.length = n1) := hn1
  have HQ : Hid (w.heap.size = q) := hq
  clear hst k0 k1 hW h0 h1 hl hn0 hn1
  go_enter Tryd.func49, Tryd.ntmps49
  go_wp2
  clear hW'
  go_loopw [4] (fun v4 wr => (v4 = .int .i64 0 ∧ BG q w nm (.slice a0 n0 p0) (.slice a1 n1 p1) vl Sn0 wr) ∨ (v4 = .int .i64 1 ∧ BG q w nm (.slice a0 n0 p0) (.slice a1 n1 p1) vl (bg 0 Sn0 b0) wr) ∨ (v4 = .int .i64 2 ∧ BG q w nm (.slice a0 n0 p0) (.slice a1 n1 p1) vl (bg 1 (bg 0 Sn0 b0) b1) wr)) (fun v _ => 2 - (intOf v).toNat)
  case atStart => exact .inl ⟨rfl, HS.out⟩
  case round =>
    rcases hrel with ⟨rfl, hb⟩ | ⟨rfl, hb⟩ | ⟨rfl, hb⟩
    · have HB : Hid (BG q w nm (.slice a0 n0 p0) (.slice a1 n1 p1) vl (Sn0) wr) := hb
      have LX : Hid ((Sn0).length = 12) := by show (Sn0).length = 12; simp [bg_length, Sn0]
      clear hb
      go_wp2
      go_loopw [5] (fun v5 wy => ∃ j : Nat, j ≤ n0 ∧ v5 = .int .i64 j ∧ BG q w nm (.slice a0 n0 p0) (.slice a1 n1 p1) vl (bg 0 (Sn0) (b0.take j)) wy) (fun v _ => n0 - (intOf v).toNat)
      case atStart => exact ⟨0, Nat.zero_le _, rfl, HB.out⟩
      case round =>
        obtain ⟨j, hj, rfl, hb⟩ := hrel
        have cc := hb.pb.c1
        by_cases hjl : j < n0
        · obtain ⟨b, o, rfl, hcj⟩ := K0.out.2 j hjl
          have cj := hcj _ hb.pb.old
          have lx : (bg 0 (Sn0) (b0.take j)).length = 12 := by rw [bg_length]; exact LX.out
          have hsn := bg_snoc 0 (Sn0) b0 j (by rw [HN0.out]; exact hjl)
          have e0 := hb.cell (i := 0) (by omega)
          have e2 := hb.cell (i := 2) (by omega)
          have f0 := hb.free 0
          have f2 := hb.free 2
          obtain ⟨t, ht⟩ : ∃ t, b0.getD j 0 = t := ⟨_, rfl⟩
          rw [ht] at cj hsn
          have b4 : (j : Int) < (n0 : Int) := by omega
          have HJ : Hid (j < n0 ∧ n0 ≤ 140737488355328) := ⟨hjl, K0.out.1⟩
          by_cases h1 : t = 1
          · subst h1
            rw [if_pos rfl] at hsn
            have he := hb.set 0 true
            rw [← hsn] at he
            have HE : Hid _ := he
            clear he
            clear hb hcj hsn ht hjl hj
            go_wp2
            exact ⟨⟨j + 1, HJ.out.1, congrArg (Value.int .i64) (wrapS HJ.out.1 HJ.out.2), HE.out⟩, measS HJ.out.1 HJ.out.2⟩
          · rw [if_neg h1] at hsn
            have h1b : (t == 1) = false := by simpa using h1
            have he := hb.set 2 true
            rw [show 2 = 2 + 0 from rfl, ← hsn] at he
            have HE : Hid _ := he
            clear he
            clear hb hcj hsn ht hjl hj
            go_wp2
            exact ⟨⟨j + 1, HJ.out.1, congrArg (Value.int .i64) (wrapS HJ.out.1 HJ.out.2), HE.out⟩, measS HJ.out.1 HJ.out.2⟩
        · have b4 : ¬ (j : Int) < (n0 : Int) := by omega
          have HE : Hid (BG q w nm (.slice a0 n0 p0) (.slice a1 n1 p1) vl (bg 0 (Sn0) b0) wr) := by
            show BG q w nm (.slice a0 n0 p0) (.slice a1 n1 p1) vl (bg 0 (Sn0) b0) wr
            rw [← List.take_of_length_le (l := b0) (i := j) (by rw [HN0.out]; omega)]; exact hb
          clear hb
          go_wp2
          exact ⟨.inr (.inl ⟨rfl, HE.out⟩), by decide⟩
    · have HB : Hid (BG q w nm (.slice a0 n0 p0) (.slice a1 n1 p1) vl (bg 0 Sn0 b0) wr) := hb
      have LX : Hid ((bg 0 Sn0 b0).length = 12) := by show (bg 0 Sn0 b0).length = 12; simp [bg_length, Sn0]
      clear hb
      go_wp2
      go_loopw [5] (fun v5 wy => ∃ j : Nat, j ≤ n1 ∧ v5 = .int .i64 j ∧ BG q w nm (.slice a0 n0 p0) (.slice a1 n1 p1) vl (bg 1 (bg 0 Sn0 b0) (b1.take j)) wy) (fun v _ => n1 - (intOf v).toNat)
      case atStart => exact ⟨0, Nat.zero_le _, rfl, HB.out⟩
      case round =>
        obtain ⟨j, hj, rfl, hb⟩ := hrel
        have cc := hb.pb.c2
        by_cases hjl : j < n1
        · obtain ⟨b, o, rfl, hcj⟩ := K1.out.2 j hjl
          have cj := hcj _ hb.pb.old
          have lx : (bg 1 (bg 0 Sn0 b0) (b1.take j)).length = 12 := by rw [bg_length]; exact LX.out
          have hsn := bg_snoc 1 (bg 0 Sn0 b0) b1 j (by rw [HN1.out]; exact hjl)
          have e0 := hb.cell (i := 1) (by omega)
          have e2 := hb.cell (i := 3) (by omega)
          have f0 := hb.free 1
          have f2 := hb.free 3
          obtain ⟨t, ht⟩ : ∃ t, b1.getD j 0 = t := ⟨_, rfl⟩
          rw [ht] at cj hsn
          have b4 : (j : Int) < (n1 : Int) := by omega
          have HJ : Hid (j < n1 ∧ n1 ≤ 140737488355328) := ⟨hjl, K1.out.1⟩
          by_cases h1 : t = 1
          · subst h1
            rw [if_pos rfl] at hsn
            have he := hb.set 1 true
            rw [← hsn] at he
            have HE : Hid _ := he
            clear he
            clear hb hcj hsn ht hjl hj
            go_wp2
            exact ⟨⟨j + 1, HJ.out.1, congrArg (Value.int .i64) (wrapS HJ.out.1 HJ.out.2), HE.out⟩, measS HJ.out.1 HJ.out.2⟩
          · rw [if_neg h1] at hsn
            have h1b : (t == 1) = false := by simpa using h1
            have he := hb.set 3 true
            rw [show 3 = 2 + 1 from rfl, ← hsn] at he
            have HE : Hid _ := he
            clear he
            clear hb hcj hsn ht hjl hj
            go_wp2
            exact ⟨⟨j + 1, HJ.out.1, congrArg (Value.int .i64) (wrapS HJ.out.1 HJ.out.2), HE.out⟩, measS HJ.out.1 HJ.out.2⟩
        · have b4 : ¬ (j : Int) < (n1 : Int) := by omega
          have HE : Hid (BG q w nm (.slice a0 n0 p0) (.slice a1 n1 p1) vl (bg 1 (bg 0 Sn0 b0) b1) wr) := by
            show BG q w nm (.slice a0 n0 p0) (.slice a1 n1 p1) vl (bg 1 (bg 0 Sn0 b0) b1) wr
            rw [← List.take_of_length_le (l := b1) (i := j) (by rw [HN1.out]; omega)]; exact hb
          clear hb
          go_wp2
          exact ⟨.inr (.inr ⟨rfl, HE.out⟩), by decide⟩
    · have HB : Hid (BG q w nm (.slice a0 n0 p0) (.slice a1 n1 p1) vl (bg 1 (bg 0 Sn0 b0) b1) wr) := hb
      have LX : Hid ((bg 1 (bg 0 Sn0 b0) b1).length = 12) := beg_length ⟨nm, b0, b1, L⟩
      clear hb
      go_wp2_with (with_reducible refine at_list ?_; first | (refine wpList_load_row rfl 90 (.tmp 3) rfl (q + 2) rfl 90 (BV (bg 1 (bg 0 Sn0 b0) b1)) (0, 0) _ HB.out.hx Tryd.underlying90 rfl (infoS LX.out) ?_) | (refine wpList_store_row rfl 90 (.tmp 2) (.tmp 33) rfl (q + 1) (BV (bg 1 (bg 0 Sn0 b0) b1)) rfl rfl 90 (BV Sn0) HB.out.hr (infoS LX.out) (szS LX.out) (BV_one _) ?_))
      refine bodyPost_ret (v := .agg (BV (bg 1 (bg 0 Sn0 b0) b1))) ?_ rfl ⟨rfl, below_setRow HB.out.pb.old _ (by omega) _⟩
      exact results_cell_row (P := Tryd.prog) (fn := Tryd.f49) (p := 2) (ty := 90) rfl _ _ (q + 1) 90 (BV (bg 1 (bg 0 Sn0 b0) b1)) (0, 0) _ rfl (setRow_heap _ _ _ _ 90 _ HB.out.hr) Tryd.underlying90 rfl (infoS LX.out)
end Go.Proofs.YtjhleocpipmklaaDoor
namespace Go.Proofs.YtjhleocpipmklaaDoor
set_option linter.unusedSimpArgs false
set_option linter.unusedVariables false
open Go.ChangeShapes Go.WideShapes Go.ChangeAt Go.RowKit Go.Pin
/-! regions whose operations are a constant, frames that are a letter -/
def opsOf : Code → Array Oper
  | .region _ ops _ => ops
  | _ => #[]
def opIs (ops : Array Oper) (i : Nat) (op : Op) (d : Option Nat) : Prop := (ops[i]?).map (fun o => (o.guard, o.op, o.dst)) = some (none, op, d)
theorem opIs.get {ops : Array Oper} {i : Nat} {op : Op} {d : Option Nat} (h : opIs ops i op d) : ∃ o, ops[i]? = some o ∧ o.guard = none ∧ o.op = op ∧ o.dst = d := by
  obtain ⟨o, h1, h5⟩ := Option.map_eq_some_iff.1 h
  simp only [Prod.mk.injEq] at h5
  exact ⟨o, h1, h5.1, h5.2.1, h5.2.2⟩
theorem wanted_none {o : Oper} (h : o.guard = none) (y : Nat → Option Bool) : Region.wanted o y = true := by simp [Region.wanted, h]
section
variable {P : Program} {ops : Array Oper} {Q : Exit → Act → World → Prop} {S : World → Prop} {fuel : Nat} {listed : Array Bool} {a : Act} {w : World}
theorem takeH {i : Nat} {op : Op} {d : Nat} {v : Value} (hc : opIs ops i op (some d)) (hs : Region.noSelect ops = true) (hf : Region.free .any ops listed i = true) (hr : (Region.ready .any ops listed).contains i = true)
    (hQ : ∀ c (a : Act) d v w, Q (.panic c) (a.put d v) w → Q (.panic c) a w) (hrun : ∀ w, S w → ∀ o : Oper, o.op = op → (execOp a.eval o).run P w = .ok (.value v) w) (hS : S w)
    (h : wpAnyH P .any ops Q S fuel (listed.setIfInBounds i true) (a.put (some d) v) w) : wpAnyH P .any ops Q S (fuel + 1) listed a w := by
  obtain ⟨o, h1, h2, h3, h4⟩ := hc.get
  exact wpAnyH_take h1 hs hf hr (fun _ _ _ h => hQ _ _ _ _ _ h) (.inl ⟨wanted_none h2 _, fun w hw => hrun w hw o h3⟩) hS (by rw [h4]; exact h)
theorem wpAnyH_as {l l' : Array Bool} (hl : l = l') (h : wpAnyH P .any ops Q S fuel l' a w) : wpAnyH P .any ops Q S fuel l a w := by rw [hl]; exact h
/-- one operation alone may come up -/
theorem readyH {i : Nat} {op : Op} {d : Option Nat} (hc : opIs ops i op d) (hr : Region.ready .any ops listed = [i])
    (h : ∀ o : Oper, o.op = op → o.dst = d → Oper.wp P o a w (fun a' w' => S w' ∧ wpAnyH P .any ops Q S fuel (listed.setIfInBounds i true) a' w') Q) : wpAnyH P .any ops Q S (fuel + 1) listed a w := by
  obtain ⟨o, h1, h2, h3, h4⟩ := hc.get
  refine wpAnyH_all hr (by simp) (fun j hj => ?_)
  obtain rfl : j = i := by simpa using hj
  unfold wpOp
  simp only [h1]
  rw [if_pos (wanted_none h2 _)]
  exact .inl (h o h3 h4)
end
theorem eval_put_ne (a : Act) (d s : Nat) (v : Value) (h : d ≠ s) : (a.put (some d) v).eval (.tmp s) = a.eval (.tmp s) := by
  simp [Act.put, Act.eval, Array.getElem?_setIfInBounds_ne h]
theorem eval_put_eq (a : Act) (d : Nat) (v : Value) (h : d < a.tmps.size) : (a.put (some d) v).eval (.tmp d) = v := by
  simp [Act.put, Act.eval, h]
theorem size_put (a : Act) (d : Nat) (v : Value) : (a.put (some d) v).tmps.size = a.tmps.size := by simp [Act.put]
theorem run_move {P : Program} {a : Act} {o : Oper} {x : Operand} {v : Value} (ho : o.op = .move x) (he : a.eval x = v) (w : World) : (execOp a.eval o).run P w = .ok (.value v) w := by
  unfold execOp
  simp only [ho, he]
  rfl
theorem run_nilCheck {P : Program} {a : Act} {o : Oper} {x : Operand} {p : Addr} (ho : o.op = .nilCheck x) (he : a.eval x = .pointer (some p)) (w : World) : (execOp a.eval o).run P w = .ok (.value (.pointer (some p))) w := by
  unfold execOp
  simp only [ho, he]
  go_simp
end Go.Proofs.YtjhleocpipmklaaDoor
namespace Go.Proofs.YtjhleocpipmklaaDoor
set_option linter.unusedSimpArgs false
set_option linter.unusedVariables false
open Go.ChangeShapes Go.WideShapes Go.ChangeAt Go.RowKit Go.Pin
section
variable {P : Program} {ops : Array Oper} {Q : Exit → Act → World → Prop} {S : World → Prop} {fuel : Nat} {listed : Array Bool} {a : Act} {w : World}
theorem wp_of_run {o : Oper} {v : Value} {K : Act → World → Prop} (hrun : (execOp a.eval o).run P w = .ok (.value v) w) (h : K (a.put o.dst v) w) : Oper.wp P o a w K Q := by
  unfold Oper.wp
  rw [hrun]
  exact h
/-- one operation that yields a value alone may come up -/
theorem readyLd1 {i : Nat} {op : Op} {d : Nat} {v : Value} (hc : opIs ops i op (some d)) (hr : Region.ready .any ops listed = [i]) (hS : S w)
    (hrun : ∀ o : Oper, o.op = op → (execOp a.eval o).run P w = .ok (.value v) w) (h : wpAnyH P .any ops Q S fuel (listed.setIfInBounds i true) (a.put (some d) v) w) : wpAnyH P .any ops Q S (fuel + 1) listed a w :=
  readyH hc hr (fun o h1 h2 => wp_of_run (hrun o h1) ⟨hS, by rw [h2]; exact h⟩)
/-- two of them, in either order -/
theorem readyLd2 {i j : Nat} {op oq : Op} {d e : Nat} {v u : Value} (hi : opIs ops i op (some d)) (hj : opIs ops j oq (some e)) (hde : d ≠ e) (hij : i ≠ j) (hr : Region.ready .any ops listed = [i, j])
    (hr1 : Region.ready .any ops (listed.setIfInBounds i true) = [j]) (hr2 : Region.ready .any ops (listed.setIfInBounds j true) = [i]) (hS : S w)
    (run1 : ∀ o : Oper, o.op = op → (execOp a.eval o).run P w = .ok (.value v) w) (run2 : ∀ o : Oper, o.op = oq → (execOp a.eval o).run P w = .ok (.value u) w)
    (run1' : ∀ o : Oper, o.op = op → (execOp (a.put (some e) u).eval o).run P w = .ok (.value v) w) (run2' : ∀ o : Oper, o.op = oq → (execOp (a.put (some d) v).eval o).run P w = .ok (.value u) w)
    (h : wpAnyH P .any ops Q S fuel ((listed.setIfInBounds i true).setIfInBounds j true) ((a.put (some d) v).put (some e) u) w) : wpAnyH P .any ops Q S (fuel + 2) listed a w := by
  obtain ⟨o1, h1, g1, p1, q1⟩ := hi.get
  obtain ⟨o2, h2, g2, p2, q2⟩ := hj.get
  refine wpAnyH_all hr (by simp) (fun k hk => ?_)
  simp only [List.mem_cons, List.not_mem_nil, or_false] at hk
  rcases hk with rfl | rfl
  · unfold wpOp
    simp only [h1]
    rw [if_pos (wanted_none g1 _)]
    refine .inl (wp_of_run (run1 o1 p1) ⟨hS, ?_⟩)
    rw [q1]
    exact readyLd1 hj hr1 hS run2' h
  · unfold wpOp
    simp only [h2]
    rw [if_pos (wanted_none g2 _)]
    refine .inl (wp_of_run (run2 o2 p2) ⟨hS, ?_⟩)
    rw [q2]
    refine readyLd1 hi hr2 hS run1' ?_
    have e1 : (a.put (some e) u).put (some d) v = (a.put (some d) v).put (some e) u := by
      simp only [Act.put]
      rw [Array.setIfInBounds_comm _ _ (fun e' => hde e'.symm)]
    rw [e1, Array.setIfInBounds_comm _ _ (fun e' => hij e'.symm)]
    exact h
end
end Go.Proofs.YtjhleocpipmklaaDoor
