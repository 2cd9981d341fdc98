import Derived.Test.YtfkbgodfcnmepabDoorDgX
namespace Go.Proofs.YtfkbgodfcnmepabDoor
set_option linter.unusedSimpArgs false
set_option linter.unusedVariables false
open Go.ChangeShapes Go.WideShapes Go.ChangeAt Go.RowKit Go.Pin Go.Str Go.Dig
def sln : Value → Nat
  | .slice _ n _ => n
  | _ => 0
/-- what Write leaves -/
def WrOk (B : Nat) (w : World) (rv : Value) (l L : List (Int × Int)) (bx : List (Nat × Obj)) (g s : Nat) (h : List Nat) (A : List Int) (w' : World) : Prop :=
  ∃ blk, HSb A blk ∧ Ev B w rv (l ++ L) ((g, hst rv s h A blk) :: bx) w'
set_option maxRecDepth 100000 in
set_option maxHeartbeats 8000000 in
theorem dwrite_any {B : Nat} {w : World} {rv : Value} {l : List (Int × Int)} {bx : List (Nat × Obj)} {W : World} {g s : Nat} {h : List Nat} {A D blk : List Int} {a : Option Addr} {n cap : Nat} (hS : HSb A blk) (hE : Ev B w rv l ((g, hst rv s h A blk) :: bx) W) (hh : S8 h) (hl : rv ≠ .pointer none → l.length + n ≤ 800000) (hne : ∀ p ∈ bx, p.1 ≠ g) (hsrc : Src B w bx (.slice a n cap) D) (hDb : Byb D) (hlen : A.length + D.length < 4611686018427387904) (hB : Beg w) (h2 : 2 ≤ B) :
    Calls Tryd.prog 8 #[.pointer (some ⟨g, 0, none⟩), .slice a n cap] W fun e w' => e = .returned (.tuple #[]) ∧ WrOk B w rv l (wl (hld A).length D.length) bx g s h (A ++ D) w' := by
  have HS8 : Hid (S8 h) := hh
  have HNE : Hid (∀ p ∈ bx, p.1 ≠ g) := hne
  have HB : Hid (Beg w ∧ 2 ≤ B) := ⟨hB, h2⟩
  have HL : Hid ((rv ≠ .pointer none → l.length + n ≤ 800000) ∧ A.length + D.length < 4611686018427387904 ∧ Byb D ∧ D.length = n) := ⟨hl, hlen, hDb, hsrc.len.1⟩
  have HE0 : Hid (Ev B w rv l ((g, hst rv s h A blk) :: bx) W) := hE
  have HS0 : Hid (HSb A blk ∧ Src B w bx (.slice a n cap) D) := ⟨hS, hsrc⟩
  clear hS hE hh hl hne hsrc hDb hlen hB h2
  go_enter Tryd.func8, Tryd.ntmps8
  go_wp2_with fail
  go_loopw [1] (fun v w' => ∃ (A' D' : List Int) (L1 : List (Int × Int)) (blk' : List Int) (a2 : Option Addr) (nj c2 : Nat), v = .slice a2 nj c2 ∧ A' ++ D' = A ++ D ∧ L1 ++ wl (hld A').length D'.length = wl (hld A).length D.length ∧ HSb A' blk' ∧ Byb D' ∧ Src B w bx (.slice a2 nj c2) D' ∧ Ev B w rv (l ++ L1) ((g, (hst rv s h A' blk')) :: bx) w') (fun v _ => sln v)
  case atStart => exact ⟨A, D, [], blk, a, n, cap, rfl, rfl, rfl, HS0.out.1, HL.out.2.2.1, HS0.out.2, HE0.out.cast (by simp)⟩
  case round =>
    clear HE0 HS0
    obtain ⟨A', D', L1, blk', a2, nj, c2, rfl, had, hlog, hsb, hdb, hsr, he⟩ := hrel
    have HAD : Hid (A' ++ D' = A ++ D ∧ L1 ++ wl (hld A').length D'.length = wl (hld A).length D.length) := ⟨had, hlog⟩
    have HSB : Hid (HSb A' blk') := hsb
    have HSR : Hid (Src B w bx (.slice a2 nj c2) D') := hsr
    have HDB : Hid (Byb D') := hdb
    clear hdb
    have HLN : Hid (rv ≠ .pointer none → (l ++ L1).length + 20 ≤ 900000) := by
      have : rv ≠ .pointer none → (l ++ L1).length + 20 ≤ 900000 := fun hr => by
        have h1 := HL.out.1 hr
        have h2 := congrArg List.length HAD.out.2
        have h3 := wl_short (hld A).length D.length (hld_le A)
        have h4 := HL.out.2.2.2
        rw [List.length_append] at h2
        rw [List.length_append]
        omega
      exact this
    have HQ0 : Hid ((prn h A' (nbl A'.length)).length = 8) := (prn_s8 HS8.out A' _).len
    have HAL : Hid (A'.length < 4611686018427387904) := by
      have : A'.length < 4611686018427387904 := by
        have h1 := congrArg List.length HAD.out.1
        have h2 := HL.out.2.1
        rw [List.length_append, List.length_append] at h1
        omega
      exact this
    have c0 := hs_r (he.row mem0)
    rcases Nat.eq_zero_or_pos nj with hz | hz
    · have b1 : decide ((0 : Int) < (nj : Int)) = false := decide_eq_false (by omega)
      have b2 : decide (0 < nj) = false := decide_eq_false (by omega)
      have CI : Hid (Calls Tryd.prog 16 #[rv, .bool false] wr fun e w' => e = .returned (.bool false) ∧ Ev B w rv (l ++ L1 ++ [(1, 0)]) ((g, (hst rv s h A' blk')) :: bx) w') := v_if he (fun hr => by have := HLN.out hr; omega) false
      have HZ : Hid (D' = []) := by
        have : D' = [] := List.length_eq_zero_iff.1 (by rw [hsr.len.1]; exact hz)
        exact this
      clear he hsr hsb hlog had hz
      go_wp2_with (go_at_call 16; refine Calls.mono CI.out ?_; rintro e W2 ⟨rfl, h2⟩; have H2 : Hid _ := h2; clear h2 CI)
      first | go_end0 | refine bodyPost_ret (results_none rfl _ _ _) rfl ?_
      refine ⟨rfl, blk', ?_, ?_⟩
      · rw [← HAD.out.1, HZ.out, List.append_nil]; exact HSB.out
      · rw [← HAD.out.1, ← HAD.out.2, HZ.out, List.append_nil, List.length_nil, wl_zero, ← List.append_assoc]; exact H2.out
    have b1 : decide ((0 : Int) < (nj : Int)) = true := decide_eq_true (by omega)
    have b2 : decide (0 < nj) = true := decide_eq_true (by omega)
    have HJ : Hid (D'.length = nj ∧ nj ≤ c2 ∧ 0 < nj ∧ Byb D') := ⟨hsr.len.1, hsr.len.2, hz, HDB.out⟩
    have CI : Hid (Calls Tryd.prog 16 #[rv, .bool true] wr fun e w' => e = .returned (.bool true) ∧ Ev B w rv (l ++ L1 ++ [(1, 1)]) ((g, (hst rv s h A' blk')) :: bx) w') := v_if he (fun hr => by have := HLN.out hr; omega) true
    clear he hsr hsb hlog had hz
    go_upto_region 2 with (go_at_call 16; refine Calls.mono CI.out ?_; rintro e W1 ⟨rfl, h1⟩; have H1 : Hid _ := h1; clear h1 CI)
    clear c0 b1 b2
    obtain ⟨hn, hhn⟩ : ∃ hn, (hld A').length = hn := ⟨_, rfl⟩
    have HHN : Hid ((hld A').length = hn) := hhn
    have HE1 : Hid (Ev B w rv (l ++ L1 ++ [(1, 1)]) ((g, hsO rv s (prn h A' (nbl A'.length)) (64 * nbl A'.length) blk' hn) :: bx) W1) := by
      have := H1.out
      unfold hst at this
      rw [hhn] at this
      exact this
    clear H1 hhn
    refine wp_as (c' := rgWr2) (by kernel_rfl) ?_
    refine Wr2 (g := g) (h := hn) (p := 64 * nbl A'.length) (rv := rv)
      (R0 := Ev B w rv (l ++ L1 ++ [(1, 1)]) ((g, hsO rv s (prn h A' (nbl A'.length)) (64 * nbl A'.length) blk' hn) :: bx)) (R1 := Ev B w rv (l ++ L1 ++ [(1, 1)] ++ [(1, if decide (hn = 64) then 1 else 0)]) ((g, hsO rv s (prn h A' (nbl A'.length)) (64 * nbl A'.length) blk' hn) :: bx))
      HE1.out.drew (fun Y h => ⟨hs_r (h.row mem0), hs_held HQ0.out HSB.out.1 (h.row mem0), hs_pr HQ0.out (h.row mem0)⟩) ?_ (fun Y h => ⟨hs_r (h.row mem0), hs_held HQ0.out HSB.out.1 (h.row mem0), hs_pr HQ0.out (h.row mem0)⟩) (fun _ _ d _ _ h => by cases d <;> exact h) ?_
    · exact fun Y h => v_if h (fun hr => by have := HLN.out hr; simp only [List.length_append, List.length_cons, List.length_nil] at this ⊢; omega) _
    intro W2 h2
    clear HE1
    by_cases h64 : hn = 64
    · have H64 : Hid ((hld A').length = 64) := by
        have : (hld A').length = 64 := by rw [HHN.out]; exact h64
        exact this
      subst h64
      have h2' : Ev B w rv (l ++ L1 ++ [(1, 1)] ++ [(1, 1)]) ((g, (hsO rv s (prn h A' (nbl A'.length)) (64 * nbl A'.length) blk' 64)) :: bx) W2 := h2
      have HFU : Hid (HSm rv s h A' (nbl A'.length + 1) blk' ∧ prs (prn h A' (nbl A'.length)) blk' (64 * nbl A'.length + 64) 0 = prn h A' (nbl A'.length + 1) ∧ A'.length = 64 * (nbl A'.length + 1)) := HSB.out.full H64.out
      have c0 := hs_r (h2'.row mem0)
      have CO : Hid (Calls Tryd.prog 17 #[rv, .int .i64 31] W2 fun e w' => e = .returned (.tuple #[]) ∧ Ev B w rv (l ++ L1 ++ [(1, 1)] ++ [(1, 1)] ++ [(3, 31)]) ((g, (hsO rv s (prn h A' (nbl A'.length)) (64 * nbl A'.length) blk' 64)) :: bx) w') := v_op h2' (fun hr => by have := HLN.out hr; simp only [List.length_append, List.length_cons, List.length_nil] at this ⊢; omega) 31
      clear h2 h2'
      go_upto_region 4 with (go_at_call 17; refine Calls.mono CO.out ?_; rintro e W3 ⟨rfl, h3⟩; have H3 : Hid _ := h3; clear h3 CO)
      clear c0
      have c10 := hs_pr HQ0.out (H3.out.row mem0)
      have f10 := hs_froz (H3.out.row mem0) 10
      have hwq : IntKind.u64.wrap (((64 * nbl A'.length : Nat) : Int) + 64) = ((64 * nbl A'.length + 64 : Nat) : Int) := by
        have := HFU.out.2.2
        have := HAL.out
        rw [show (((64 * nbl A'.length : Nat) : Int) + 64) = ((64 * nbl A'.length + 64 : Nat) : Int) by omega]
        exact IntWalk.u64_in _ ⟨by omega, by omega⟩
      obtain ⟨pq, hpq⟩ : ∃ pq : Nat, 64 * nbl A'.length = pq := ⟨_, rfl⟩
      have HPQ : Hid (64 * nbl A'.length = pq) := hpq
      rw [hpq] at c10 hwq
      have H4 : Hid (Ev B w rv (l ++ L1 ++ [(1, 1)] ++ [(1, 1)] ++ [(3, 31)]) ((g, (hsO rv s (prn h A' (nbl A'.length)) (pq + 64) blk' 64)) :: bx) (W3.setCell ⟨g, 10, none⟩ (.int .u64 ((pq : Int) + 64)))) := by
        have h3 := H3.out
        rw [hpq] at h3
        have hr := hs_setPr HQ0.out (h3.row mem0) (pq + 64)
        rw [show (((pq + 64 : Nat)) : Int) = (pq : Int) + 64 by omega] at hr
        exact h3.set rfl HNE.out ((Grow.refl _ _).but ((But.refl (fun k => k = g) _).setCell (p := ⟨g, 10, none⟩) rfl _) (fun k hk => .inl hk)) hr
      clear hpq
      have HQP : Hid ((prs (prn h A' (nbl A'.length)) blk' (pq + 64) 0).length = 8) := (prs_s8 (prn_s8 HS8.out A' _) _ _ (by decide)).len
      go_upto_region 5 with fail
      clear c10 f10 hwq
      obtain ⟨W4, hW4⟩ : ∃ V, W3.setCell ⟨g, 10, none⟩ (.int .u64 ((pq : Int) + 64)) = V := ⟨_, rfl⟩
      rw [hW4] at H4 ⊢
      clear hW4 H3
      refine wp_as (c' := rgWr5) (by kernel_rfl) ?_
      refine Wr5 (g := g) (h := 64) (p := pq + 64) (rv := rv)
        (R0 := Ev B w rv (l ++ L1 ++ [(1, 1)] ++ [(1, 1)] ++ [(3, 31)]) ((g, (hsO rv s (prn h A' (nbl A'.length)) (pq + 64) blk' 64)) :: bx)) (R1 := Ev B w rv (l ++ L1 ++ [(1, 1)] ++ [(1, 1)] ++ [(3, 31)]) ((g, (hsO rv s (prs (prn h A' (nbl A'.length)) blk' (pq + 64) 0) (pq + 64) blk' 64)) :: bx))
        H4.out.drew (fun Y h => ⟨hs_r (h.row mem0), hs_held HQ0.out HSB.out.1 (h.row mem0), hs_pr HQ0.out (h.row mem0)⟩) ?_ (fun Y h => ⟨hs_r (h.row mem0), hs_held HQP.out HSB.out.1 (h.row mem0), hs_pr HQP.out (h.row mem0)⟩) (fun _ _ d _ _ h => by cases d <;> exact h) ?_
      · intro Y hY
        have hrow := hY.row mem0
        have := press_any g 2 g 11 (hsP rv s) (hsQ (pq + 64) blk' 64) rfl 51 (prn h A' (nbl A'.length)) (prn_s8 HS8.out A' _) blk' HSB.out.2.1 (pq + 64) 0 (by have := HPQ.out; have := HFU.out.2.2; have := HAL.out; omega) (by decide) Y (hs_rs hrow) (fun i hi => hs_blk HQ0.out HSB.out.1 hrow hi) (HB.out.1.below hY.old HB.out.2)
        refine this.mono ?_
        rintro e w' ⟨rfl, hg, hr⟩
        exact ⟨rfl, hY.set rfl HNE.out hg hr⟩
      intro W5 h5
      have f75 := hs_froz (h5.row mem0) 75
      have c75 := hs_held HQP.out HSB.out.1 (h5.row mem0)
      have H6 : Hid (Ev B w rv (l ++ L1 ++ [(1, 1)] ++ [(1, 1)] ++ [(3, 31)]) ((g, (hsO rv s (prs (prn h A' (nbl A'.length)) blk' (pq + 64) 0) (pq + 64) blk' 0)) :: bx) (W5.setCell ⟨g, 75, none⟩ (.int .i64 0))) := h5.set rfl HNE.out ((Grow.refl _ _).but ((But.refl (fun k => k = g) _).setCell (p := ⟨g, 75, none⟩) rfl _) (fun k hk => .inl hk)) (hs_setHeld HQP.out HSB.out.1 (h5.row mem0) 0)
      clear h5 H4
      go_upto_region 7 with fail
      clear f75 c75
      obtain ⟨W6, hW6⟩ : ∃ V, W5.setCell ⟨g, 75, none⟩ (.int .i64 0) = V := ⟨_, rfl⟩
      rw [hW6] at H6 ⊢
      clear hW6
      obtain ⟨hh, hhh⟩ : ∃ hh, A'.length - 64 * (nbl A'.length + 1) = hh := ⟨_, rfl⟩
      have HHH : Hid (A'.length - 64 * (nbl A'.length + 1) = hh) := hhh
      have hz0 : hh = 0 := by have := HFU.out.2.2; omega
      have HMm : Hid (HSm rv s h A' (nbl A'.length + 1) blk') := HFU.out.1
      have HE6 : Hid (Ev B w rv (l ++ L1 ++ [(1, 1)] ++ [(1, 1)] ++ [(3, 31)]) ((g, (hsO rv s (prn h A' (nbl A'.length + 1)) (64 * (nbl A'.length + 1)) blk' hh)) :: bx) W6) := by
        have := H6.out
        rw [← HPQ.out, HFU.out.2.1] at this
        rw [hz0]
        exact this
      have HZ0 : Hid (hh = 0) := hz0
      clear hhh hz0 H6

      obtain ⟨k, hk⟩ : ∃ k, min (64 - hh) nj = k := ⟨_, rfl⟩
      obtain ⟨X, hX⟩ : ∃ X, D'.take k = X := ⟨_, rfl⟩
      have HQ8 : Hid ((prn h A' (nbl A'.length + 1)).length = 8) := (prn_s8 HS8.out A' (nbl A'.length + 1)).len
      have HPL : Hid ((putb blk' hh X).length = 64) := by
        have : (putb blk' hh X).length = 64 := by rw [putb_len]; exact HMm.out.1
        exact this
      have HK : Hid (hh < 64 ∧ 0 < k ∧ k ≤ nj ∧ k ≤ 64 - hh ∧ X.length = k ∧ Byb X ∧ D'.take k = X ∧ min (64 - hh) nj = k) := by
        have h1 := HMm.out.2.2.2.1
        have h2 := HHH.out
        have h3 := HJ.out
        have : hh < 64 ∧ 0 < k ∧ k ≤ nj ∧ k ≤ 64 - hh ∧ X.length = k ∧ Byb X ∧ D'.take k = X ∧ min (64 - hh) nj = k := ⟨by omega, by omega, by omega, by omega, by rw [← hX, List.length_take, h3.1]; omega, fun x hx => h3.2.2.2 x (List.mem_of_mem_take (hX ▸ hx)), hX, hk⟩
        exact this
      clear hk hX
      refine wp_as (c' := rgWr7) (by kernel_rfl) ?_
      refine Wr7 (g := g) (h := hh) (p := 64 * (nbl A'.length + 1)) (rv := rv) (pv := .slice a2 nj c2) (kv := .int .i64 (k : Int))
        (R0 := Ev B w rv (l ++ L1 ++ [(1, 1)] ++ [(1, 1)] ++ [(3, 31)]) ((g, (hsO rv s (prn h A' (nbl A'.length + 1)) (64 * (nbl A'.length + 1)) blk' hh)) :: bx)) (R1 := Ev B w rv (l ++ L1 ++ [(1, 1)] ++ [(1, 1)] ++ [(3, 31)] ++ [(2, (hh : Int))]) ((g, (hsO rv s (prn h A' (nbl A'.length + 1)) (64 * (nbl A'.length + 1)) blk' hh)) :: bx)) (R2 := Ev B w rv (l ++ L1 ++ [(1, 1)] ++ [(1, 1)] ++ [(3, 31)] ++ [(2, (hh : Int))]) ((g, (hsO rv s (prn h A' (nbl A'.length + 1)) (64 * (nbl A'.length + 1)) (putb blk' hh X) hh)) :: bx))
        HK.out.1 HE6.out.drew (fun Y h => ⟨hs_r (h.row mem0), hs_held HQ8.out HMm.out.1 (h.row mem0), hs_pr HQ8.out (h.row mem0)⟩) ?_ (fun Y h => ⟨hs_r (h.row mem0), hs_held HQ8.out HMm.out.1 (h.row mem0), hs_pr HQ8.out (h.row mem0)⟩) ?_ (fun Y h => ⟨hs_r (h.row mem0), hs_held HQ8.out (HPL.out) (h.row mem0), hs_pr HQ8.out (h.row mem0)⟩) (fun _ _ d _ _ h => by cases d <;> exact h) ?_
      · exact fun Y h => v_at h (fun hr => by have := HLN.out hr; simp only [List.length_append, List.length_cons, List.length_nil] at this ⊢; omega) _
      · intro Y hY ac o K Q ho hd hx hy hK
        have hrow := hY.row mem0
        obtain ⟨b, oo, ha2, hrg⟩ := HSR.out.range HJ.out.2.2.1
        have hsr := range_take (hrg Y hY.old (fun q hq => hY.row (memr1 hq))) k
        rw [← List.map_take, HK.out.2.2.2.2.2.2.1] at hsr
        have hnew : Ev B w rv (l ++ L1 ++ [(1, 1)] ++ [(1, 1)] ++ [(3, 31)] ++ [(2, (hh : Int))]) ((g, (hsO rv s (prn h A' (nbl A'.length + 1)) (64 * (nbl A'.length + 1)) (putb blk' hh X) hh)) :: bx) (Y.setCells g (11 + hh) (X.map (Value.int .u8))) :=
          hY.set rfl HNE.out (grow_setCells g _ _ Y) (hs_puts (o := hh) HQ8.out X HMm.out.1 (by have := HK.out; omega) hrow)
        refine wpBuiltin (w' := Y.setCells g (11 + hh) (X.map (Value.int .u8))) (z := .int .i64 (k : Int)) ho hd hx hy ?_ (hK _ hnew)
        rw [ha2]
        have := run_copyX (W := Y) (gd := g) (od := 11 + hh) (dl := 64 - hh) (dc := 64 - hh) (sl := nj) (sc := c2) (X := X) o.type (by rw [HK.out.2.2.2.2.1, ← HK.out.2.2.2.2.2.2.2]; exact Nat.min_comm _ _) hsr (fun j hj => by
          rw [HK.out.2.2.2.2.1] at hj
          refine ⟨?_, hs_froz hrow _⟩
          rw [Nat.add_assoc, hs_blk HQ8.out HMm.out.1 hrow (show hh + j < 64 by have := HK.out; omega)]
          rfl)
        rw [HK.out.2.2.2.2.1] at this; exact this
      intro W7 h7
      have c0 := hs_r (h7.row mem0)
      have CA : Hid (Calls Tryd.prog 19 #[rv, .int .i64 (k : Int)] W7 fun e w' => e = .returned (.int .i64 (k : Int)) ∧ Ev B w rv (l ++ L1 ++ [(1, 1)] ++ [(1, 1)] ++ [(3, 31)] ++ [(2, (hh : Int))] ++ [(2, (k : Int))]) ((g, (hsO rv s (prn h A' (nbl A'.length + 1)) (64 * (nbl A'.length + 1)) (putb blk' hh X) hh)) :: bx) w') := v_at h7 (fun hr => by have := HLN.out hr; simp only [List.length_append, List.length_cons, List.length_nil] at this ⊢; omega) _
      have hfrom := fun w => run_from w a2 nj c2 k (k : Int) rfl HK.out.2.2.1 HJ.out.2.1
      have hs3 := HSR.out.from' k HK.out.2.2.1
      obtain ⟨a3, ha3⟩ : ∃ a3, adv a2 c2 k = a3 := ⟨_, rfl⟩
      simp only [ha3] at hfrom hs3
      have HS3 : Hid (Src B w bx (.slice a3 (nj - k) (c2 - k)) (D'.drop k)) := hs3
      clear h7 ha3 hs3
      go_upto_region 9 with (go_at_call 19; refine Calls.mono CA.out ?_; rintro e W8 ⟨rfl, h8⟩; have H8 : Hid _ := h8; clear h8 CA)
      clear c0 hfrom
      have c75 := hs_held HQ8.out HPL.out (H8.out.row mem0)
      have f75 := hs_froz (H8.out.row mem0) 75
      have hwr : IntKind.i64.wrap ((hh : Int) + (k : Int)) = (hh : Int) + (k : Int) := by
        have := HK.out
        exact IntWalk.i64_in _ ⟨by omega, by omega⟩
      have H9 : Hid (Ev B w rv (l ++ L1 ++ [(1, 1)] ++ [(1, 1)] ++ [(3, 31)] ++ [(2, (hh : Int))] ++ [(2, (k : Int))]) ((g, (hsO rv s (prn h A' (nbl A'.length + 1)) (64 * (nbl A'.length + 1)) (putb blk' hh X) (hh + k))) :: bx) (W8.setCell ⟨g, 75, none⟩ (.int .i64 ((hh : Int) + (k : Int))))) := by
        have := hs_setHeld HQ8.out HPL.out (H8.out.row mem0) (hh + k)
        rw [Int.natCast_add] at this
        exact H8.out.set rfl HNE.out ((Grow.refl _ _).but ((But.refl (fun k => k = g) _).setCell (p := ⟨g, 75, none⟩) rfl _) (fun k hk => .inl hk)) this
      go_wp2
      go_roundw
      case rel =>
        have ha := HMm.out.add (rv := rv) (s := s) (h := h) HK.out.2.2.2.2.2.1 (by rw [HK.out.2.2.2.2.1]; exact HK.out.2.1) (by rw [HK.out.2.2.2.2.1, HHH.out]; exact HK.out.2.2.2.1)
        rw [HHH.out, HK.out.2.2.2.2.1] at ha
        refine ⟨A' ++ X, D'.drop k, L1 ++ [(1, 1), (1, 1), (3, 31), (2, 0), (2, (k : Int))], putb blk' hh X, a3, nj - k, c2 - k, rfl, ?_, ?_, ha.1, fun x hx => HDB.out x (List.mem_of_mem_drop hx), HS3.out, ?_⟩
        · rw [List.append_assoc, ← HK.out.2.2.2.2.2.2.1, List.take_append_drop]; exact HAD.out.1
        · rw [← HAD.out.2, ha.2.2.2, List.length_drop, HJ.out.1, List.append_assoc]
          congr 1
          rw [H64.out, HZ0.out, Nat.zero_add, wl_full HJ.out.2.2.1 (k := k) (by have := HK.out.2.2.2.2.2.2.2; rw [HZ0.out] at this; exact this)]
        · rw [← ha.2.1]
          refine H9.out.cast ?_
          simp [HZ0.out]
      case measure => have := HK.out; simp [sln]; omega
    · have hd : decide (hn = 64) = false := decide_eq_false h64
      rw [hd] at h2 ⊢
      have hlt : (hld A').length < 64 := by have := hld_le A'; have := HHN.out; omega
      obtain ⟨hm, hme⟩ := HSB.out.room (rv := rv) (s := s) (h := h) hlt
      have HMm : Hid (HSm rv s h A' (nbl A'.length) blk') := hm
      obtain ⟨hh, hhh⟩ : ∃ hh, A'.length - 64 * nbl A'.length = hh := ⟨_, rfl⟩
      have HHH : Hid (A'.length - 64 * nbl A'.length = hh) := hhh
      have HHE : Hid (hn = hh) := by
        have : hn = hh := by rw [← HHN.out, ← hhh]; exact hld_len A'
        exact this
      have HE6 : Hid (Ev B w rv (l ++ L1 ++ [(1, 1)] ++ [(1, 0)]) ((g, (hsO rv s (prn h A' (nbl A'.length)) (64 * nbl A'.length) blk' hh)) :: bx) W2) := by
        have := h2
        rw [HHE.out] at this
        exact this
      clear h2 hlt hm hme hhh hd h64
      go_upto_region 7 with fail

      obtain ⟨k, hk⟩ : ∃ k, min (64 - hh) nj = k := ⟨_, rfl⟩
      obtain ⟨X, hX⟩ : ∃ X, D'.take k = X := ⟨_, rfl⟩
      have HQ8 : Hid ((prn h A' (nbl A'.length)).length = 8) := (prn_s8 HS8.out A' (nbl A'.length)).len
      have HPL : Hid ((putb blk' hh X).length = 64) := by
        have : (putb blk' hh X).length = 64 := by rw [putb_len]; exact HMm.out.1
        exact this
      have HK : Hid (hh < 64 ∧ 0 < k ∧ k ≤ nj ∧ k ≤ 64 - hh ∧ X.length = k ∧ Byb X ∧ D'.take k = X ∧ min (64 - hh) nj = k) := by
        have h1 := HMm.out.2.2.2.1
        have h2 := HHH.out
        have h3 := HJ.out
        have : hh < 64 ∧ 0 < k ∧ k ≤ nj ∧ k ≤ 64 - hh ∧ X.length = k ∧ Byb X ∧ D'.take k = X ∧ min (64 - hh) nj = k := ⟨by omega, by omega, by omega, by omega, by rw [← hX, List.length_take, h3.1]; omega, fun x hx => h3.2.2.2 x (List.mem_of_mem_take (hX ▸ hx)), hX, hk⟩
        exact this
      clear hk hX
      refine wp_as (c' := rgWr7) (by kernel_rfl) ?_
      refine Wr7 (g := g) (h := hh) (p := 64 * (nbl A'.length)) (rv := rv) (pv := .slice a2 nj c2) (kv := .int .i64 (k : Int))
        (R0 := Ev B w rv (l ++ L1 ++ [(1, 1)] ++ [(1, 0)]) ((g, (hsO rv s (prn h A' (nbl A'.length)) (64 * (nbl A'.length)) blk' hh)) :: bx)) (R1 := Ev B w rv (l ++ L1 ++ [(1, 1)] ++ [(1, 0)] ++ [(2, (hh : Int))]) ((g, (hsO rv s (prn h A' (nbl A'.length)) (64 * (nbl A'.length)) blk' hh)) :: bx)) (R2 := Ev B w rv (l ++ L1 ++ [(1, 1)] ++ [(1, 0)] ++ [(2, (hh : Int))]) ((g, (hsO rv s (prn h A' (nbl A'.length)) (64 * (nbl A'.length)) (putb blk' hh X) hh)) :: bx))
        HK.out.1 HE6.out.drew (fun Y h => ⟨hs_r (h.row mem0), hs_held HQ8.out HMm.out.1 (h.row mem0), hs_pr HQ8.out (h.row mem0)⟩) ?_ (fun Y h => ⟨hs_r (h.row mem0), hs_held HQ8.out HMm.out.1 (h.row mem0), hs_pr HQ8.out (h.row mem0)⟩) ?_ (fun Y h => ⟨hs_r (h.row mem0), hs_held HQ8.out (HPL.out) (h.row mem0), hs_pr HQ8.out (h.row mem0)⟩) (fun _ _ d _ _ h => by cases d <;> exact h) ?_
      · exact fun Y h => v_at h (fun hr => by have := HLN.out hr; simp only [List.length_append, List.length_cons, List.length_nil] at this ⊢; omega) _
      · intro Y hY ac o K Q ho hd hx hy hK
        have hrow := hY.row mem0
        obtain ⟨b, oo, ha2, hrg⟩ := HSR.out.range HJ.out.2.2.1
        have hsr := range_take (hrg Y hY.old (fun q hq => hY.row (memr1 hq))) k
        rw [← List.map_take, HK.out.2.2.2.2.2.2.1] at hsr
        have hnew : Ev B w rv (l ++ L1 ++ [(1, 1)] ++ [(1, 0)] ++ [(2, (hh : Int))]) ((g, (hsO rv s (prn h A' (nbl A'.length)) (64 * (nbl A'.length)) (putb blk' hh X) hh)) :: bx) (Y.setCells g (11 + hh) (X.map (Value.int .u8))) :=
          hY.set rfl HNE.out (grow_setCells g _ _ Y) (hs_puts (o := hh) HQ8.out X HMm.out.1 (by have := HK.out; omega) hrow)
        refine wpBuiltin (w' := Y.setCells g (11 + hh) (X.map (Value.int .u8))) (z := .int .i64 (k : Int)) ho hd hx hy ?_ (hK _ hnew)
        rw [ha2]
        have := run_copyX (W := Y) (gd := g) (od := 11 + hh) (dl := 64 - hh) (dc := 64 - hh) (sl := nj) (sc := c2) (X := X) o.type (by rw [HK.out.2.2.2.2.1, ← HK.out.2.2.2.2.2.2.2]; exact Nat.min_comm _ _) hsr (fun j hj => by
          rw [HK.out.2.2.2.2.1] at hj
          refine ⟨?_, hs_froz hrow _⟩
          rw [Nat.add_assoc, hs_blk HQ8.out HMm.out.1 hrow (show hh + j < 64 by have := HK.out; omega)]
          rfl)
        rw [HK.out.2.2.2.2.1] at this; exact this
      intro W7 h7
      have c0 := hs_r (h7.row mem0)
      have CA : Hid (Calls Tryd.prog 19 #[rv, .int .i64 (k : Int)] W7 fun e w' => e = .returned (.int .i64 (k : Int)) ∧ Ev B w rv (l ++ L1 ++ [(1, 1)] ++ [(1, 0)] ++ [(2, (hh : Int))] ++ [(2, (k : Int))]) ((g, (hsO rv s (prn h A' (nbl A'.length)) (64 * (nbl A'.length)) (putb blk' hh X) hh)) :: bx) w') := v_at h7 (fun hr => by have := HLN.out hr; simp only [List.length_append, List.length_cons, List.length_nil] at this ⊢; omega) _
      have hfrom := fun w => run_from w a2 nj c2 k (k : Int) rfl HK.out.2.2.1 HJ.out.2.1
      have hs3 := HSR.out.from' k HK.out.2.2.1
      obtain ⟨a3, ha3⟩ : ∃ a3, adv a2 c2 k = a3 := ⟨_, rfl⟩
      simp only [ha3] at hfrom hs3
      have HS3 : Hid (Src B w bx (.slice a3 (nj - k) (c2 - k)) (D'.drop k)) := hs3
      clear h7 ha3 hs3
      go_upto_region 9 with (go_at_call 19; refine Calls.mono CA.out ?_; rintro e W8 ⟨rfl, h8⟩; have H8 : Hid _ := h8; clear h8 CA)
      clear c0 hfrom
      have c75 := hs_held HQ8.out HPL.out (H8.out.row mem0)
      have f75 := hs_froz (H8.out.row mem0) 75
      have hwr : IntKind.i64.wrap ((hh : Int) + (k : Int)) = (hh : Int) + (k : Int) := by
        have := HK.out
        exact IntWalk.i64_in _ ⟨by omega, by omega⟩
      have H9 : Hid (Ev B w rv (l ++ L1 ++ [(1, 1)] ++ [(1, 0)] ++ [(2, (hh : Int))] ++ [(2, (k : Int))]) ((g, (hsO rv s (prn h A' (nbl A'.length)) (64 * (nbl A'.length)) (putb blk' hh X) (hh + k))) :: bx) (W8.setCell ⟨g, 75, none⟩ (.int .i64 ((hh : Int) + (k : Int))))) := by
        have := hs_setHeld HQ8.out HPL.out (H8.out.row mem0) (hh + k)
        rw [Int.natCast_add] at this
        exact H8.out.set rfl HNE.out ((Grow.refl _ _).but ((But.refl (fun k => k = g) _).setCell (p := ⟨g, 75, none⟩) rfl _) (fun k hk => .inl hk)) this
      go_wp2
      go_roundw
      case rel =>
        have ha := HMm.out.add (rv := rv) (s := s) (h := h) HK.out.2.2.2.2.2.1 (by rw [HK.out.2.2.2.2.1]; exact HK.out.2.1) (by rw [HK.out.2.2.2.2.1, HHH.out]; exact HK.out.2.2.2.1)
        rw [HHH.out, HK.out.2.2.2.2.1] at ha
        refine ⟨A' ++ X, D'.drop k, L1 ++ [(1, 1), (1, 0), (2, (hh : Int)), (2, (k : Int))], putb blk' hh X, a3, nj - k, c2 - k, rfl, ?_, ?_, ha.1, fun x hx => HDB.out x (List.mem_of_mem_drop hx), HS3.out, ?_⟩
        · rw [List.append_assoc, ← HK.out.2.2.2.2.2.2.1, List.take_append_drop]; exact HAD.out.1
        · rw [← HAD.out.2, ha.2.2.2, List.length_drop, HJ.out.1, List.append_assoc]
          congr 1
          rw [HHN.out, HHE.out, wl_room HK.out.1 HJ.out.2.2.1 HK.out.2.2.2.2.2.2.2]
        · rw [← ha.2.1]
          refine H9.out.cast ?_
          simp
      case measure => have := HK.out; simp [sln]; omega
end Go.Proofs.YtfkbgodfcnmepabDoor
