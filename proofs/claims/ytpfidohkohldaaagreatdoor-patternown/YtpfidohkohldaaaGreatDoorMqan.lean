import Derived.Test.YtpfidohkohldaaaGreatDoorMqam
import Derived.Test.YtpfidohkohldaaaGreatDoorMqab
namespace Go.Proofs.YtpfidohkohldaaaGreatDoor
set_option linter.unusedSimpArgs false
set_option linter.unusedVariables false
set_option maxRecDepth 100000
open Go.ChangeShapes Go.WideShapes Go.ChangeAt Go.RowKit Go.Pin Go.Pat Go.Deep
def wr1 (l : List UInt8) (s : Int) (ts : List Int) : List UInt8 := if ts.length = 0 then l else l ++ toL (row s ts)
/-- what is written behind the name, ahead of the messages -/
def wrB (p : Pt) : Nat → List UInt8
  | 0 => [58, 10]
  | 1 => wr1 [58, 10] 0 p.b0
  | _ => wr1 (wr1 [58, 10] 0 p.b0) 1 p.b1
def wrD (p : Pt) : List UInt8 := if 0 < p.b0.length + p.b1.length then wrB p 2 ++ [32, 32, 46, 46, 46, 10] else wrB p 2
def wrN (p : Pt) : Nat → List UInt8
  | 0 => wrD p
  | i + 1 => wrN p i ++ toL (row (p.ln.getD i (0, [])).1 (p.ln.getD i (0, [])).2)
def wrt (p : Pt) : List UInt8 := wrN p p.ln.length
theorem bef_wr1 (s : ByteArray) (l a : List UInt8) (h : toL s = a ++ l) (side : Int) (ts : List Int) : toL (bef s side ts) = a ++ wr1 l side ts := by
  unfold bef wr1
  split
  · exact h
  · rw [toL_app, h, List.append_assoc]
theorem txt_wrt (p : Pt) : toL (txt p) = toL p.nm ++ wrt p := by
  have h0 : toL (txH p) = toL p.nm ++ wrD p := by
    have e := bef_wr1 _ _ _ (bef_wr1 (p.nm ++ ⟨#[58, 10]⟩) [58, 10] (toL p.nm) (toL_app _ _) 0 p.b0) 1 p.b1
    unfold txH dots wrD
    split
    · rw [toL_app, e, List.append_assoc]
      rfl
    · exact e
  have hN : ∀ i, toL (txN p i) = toL p.nm ++ wrN p i := fun i => by
    induction i with
    | zero => exact h0
    | succ i ih => rw [txN, wrN, toL_app, ih, List.append_assoc]
  exact hN _
theorem wrB_len (p : Pt) (h0 : p.b0.length ≤ 2) (h1 : p.b1.length ≤ 2) : ∀ j, (wrB p j).length ≤ 100 := by
  have k : ∀ (l : List UInt8) (s : Int) (ts : List Int), (wr1 l s ts).length ≤ l.length + (6 + 5 * ts.length) := fun l s ts => by
    unfold wr1
    split
    · omega
    · have := row_size s ts
      rw [List.length_append, toL_len]
      omega
  intro j
  match j with
  | 0 => simp [wrB]
  | 1 => have := k [58, 10] 0 p.b0; simp only [wrB]; simp at this ⊢; omega
  | j + 2 =>
    have e1 := k [58, 10] 0 p.b0
    have e2 := k (wr1 [58, 10] 0 p.b0) 1 p.b1
    simp only [wrB]
    simp at e1
    omega
theorem wrN_len (p : Pt) (h : shaped p = true) : ∀ i, i ≤ p.ln.length → (wrN p i).length ≤ 200 + 126 * i := by
  obtain ⟨h0, h1, _, hn, hl⟩ := shaped_all h
  intro i
  induction i with
  | zero =>
    intro _
    have := wrB_len p h0 h1 2
    show (wrD p).length ≤ _
    unfold wrD
    split
    · rw [List.length_append]; simp; omega
    · omega
  | succ i ih =>
    intro hi
    have hmem : p.ln.getD i (0, []) ∈ p.ln := by
      rw [show p.ln.getD i (0, []) = p.ln[i] by simp [List.getD, show i < p.ln.length by omega]]
      exact List.getElem_mem _
    have h2 := (hl _ hmem).2.2.1
    have := row_size (p.ln.getD i (0, [])).1 (p.ln.getD i (0, [])).2
    rw [wrN, List.length_append, toL_len]
    have := ih (by omega)
    omega
theorem BD.below {B b : Nat} {l : List UInt8} {w w' : World} (h : BD B b l w) (hb : Below w.heap.size w w') : BD B b l w' := by
  have k : ∀ p, Lib.BuilderAt 94 5 B b p (Lib.byteCells l) w → Lib.BuilderAt 94 5 B b p (Lib.byteCells l) w' := by
    rintro p ⟨h1, v, h2, h3, h4⟩
    refine ⟨h1, v, (hb.block b (Array.getElem?_eq_some_iff.1 h2).1).trans h2, ?_, h4⟩
    exact owns_below hb h3
  rcases h with h | h
  · exact .inl (k _ h)
  · exact .inr (k _ h)
set_option maxHeartbeats 4000000 in
theorem written_any {ea : Int → Addr} (v : Value) (p : Pt) (w : World) (hE : Errs ea w) (h : RdP w v p) (hsh : shaped p = true) :
    Calls Tryz.prog 25 #[v] w fun e w' => e = .returned (.string ⟨(wrt p).toArray⟩) ∧ Below w.heap.size w w' := by
  obtain ⟨v0, v1, vl, rfl, h0, h1, hl⟩ := h
  obtain ⟨q, hq⟩ : ∃ q, w.heap.size = q := ⟨_, rfl⟩
  obtain ⟨hs0, hs1, hln0, hln, hlines⟩ := shaped_all hsh
  have ht0 : ∀ t ∈ p.b0, T7 t := by unfold shaped at hsh; simp only [Bool.and_eq_true] at hsh; exact ahd_t7 hsh.1.1.1
  have ht1 : ∀ t ∈ p.b1, T7 t := by unfold shaped at hsh; simp only [Bool.and_eq_true] at hsh; exact ahd_t7 hsh.1.1.2
  have hWB := wrB_len p hs0 hs1
  have hWN := wrN_len p hsh
  obtain ⟨a0, k0, rfl, _, hm0, _⟩ := id h0
  obtain ⟨a1, k1, rfl, _, hm1, _⟩ := id h1
  obtain ⟨al, kl, rfl, _, hml, _⟩ := id hl
  have hat := fun j (hj : j < p.ln.length) => hl.at hj
  obtain ⟨n, hn⟩ : ∃ n, p.ln.length = n := ⟨_, rfl⟩
  obtain ⟨L0, hL0⟩ : ∃ L, p.b0.length = L := ⟨_, rfl⟩
  obtain ⟨L1, hL1⟩ : ∃ L, p.b1.length = L := ⟨_, rfl⟩
  obtain ⟨nm, hnm⟩ : ∃ nm, p.nm = nm := ⟨_, rfl⟩
  have hst := pb_start w nm (.slice a0 L0 k0) (.slice a1 L1 k1) (.slice al n kl)
  have HW0 : Hid (∀ (s : Nat) (u : Value) (ts : List Int), s < 2 → RdN w u ts → (∀ t ∈ ts, T7 t) → ts.length ≤ 24 → ∀ (l : List UInt8), l.length ≤ 100000 → ∀ y, Below q w y → q + 1 ≤ y.heap.size → BD (q + 1) (q + 1) l y → Calls Tryz.prog 47 #[.pointer (some ⟨q + 1, 0, none⟩), .int .i64 s, u] y fun e w' => e = .returned (.tuple #[]) ∧ BD (q + 1) (q + 1) (l ++ toL (row s ts)) w' ∧ Below (q + 1) y w') :=
    fun s u ts hs hu ht h24 l hl y hy hB hb => writeRow_any w hE (q + 1) (q + 1) (by omega) s hs u ts hu ht h24 l hl y (by rw [hq]; exact hy) hB hb
  rw [hn] at hat hln hln0
  rw [hL0] at hm0 h0 hs0
  rw [hL1] at hm1 h1 hs1
  rw [hq] at hst
  have hr0 : RdN w (.slice a0 L0 k0) p.b0 := h0
  have hr1 : RdN w (.slice a1 L1 k1) p.b1 := h1
  rw [hL0, hL1, hn, hnm]
  obtain ⟨W, hW⟩ : ∃ W, w.alloc (.cells #[.string nm, .slice a0 L0 k0, .slice a1 L1 k1, .slice al n kl] 26) = W := ⟨_, rfl⟩
  rw [hW] at hst
  have hWs : W.heap.size = q + 1 := by rw [← hW, size_alloc, hq]
  have hbd := bd_new W
  obtain ⟨V, hV⟩ : ∃ V, W.alloc (.cells #[.pointer none, .slice none 0 0] 94) = V := ⟨_, rfl⟩
  rw [hV, hWs] at hbd
  have hVW : Below (q + 1) W V := by rw [← hV, ← hWs]; exact (Below.refl _ _).alloc (Nat.le_refl _) _
  have hVs : V.heap.size = q + 2 := by rw [← hV, size_alloc, hWs]
  have HP : Hid (∀ y, Below (q + 1) W y → PB q w nm (.slice a0 L0 k0) (.slice a1 L1 k1) (.slice al n kl) y) := fun y hy => hst.below (by rw [hWs]; exact hy)
  have C0 := bwrite_any (q + 1) (q + 1) [] ⟨#[58, 10]⟩ V hbd (by decide) (by omega)
  have HC0 : Hid _ := C0
  have HV : Hid (Below (q + 1) W V ∧ V.heap.size = q + 2 ∧ W.heap.size = q + 1) := ⟨hVW, hVs, hWs⟩
  have HAT : Hid (∀ j, j < n → _) := hat
  have HN : Hid (p.ln.length = n ∧ n ≤ 24 ∧ p.b0.length = L0 ∧ p.b1.length = L1 ∧ L0 ≤ 2 ∧ L1 ≤ 2) := ⟨hn, hln, hL0, hL1, hs0, hs1⟩
  have HWB : Hid (∀ j, (wrB p j).length ≤ 100) := hWB
  have HWN : Hid (∀ i, i ≤ p.ln.length → (wrN p i).length ≤ 200 + 126 * i) := hWN
  have HT : Hid ((∀ t ∈ p.b0, T7 t) ∧ (∀ t ∈ p.b1, T7 t) ∧ RdN w (.slice a0 L0 k0) p.b0 ∧ RdN w (.slice a1 L1 k1) p.b1) := ⟨ht0, ht1, hr0, hr1⟩
  have HLN : Hid (∀ l ∈ p.ln, (l.1 = 0 ∨ l.1 = 1) ∧ (∀ t ∈ l.2, T7 t) ∧ l.2.length ≤ 24) := fun l hl => ⟨(hlines l hl).1, isTok_t7 (hlines l hl).2.2.2, (hlines l hl).2.2.1⟩
  clear hst hat hm0 hm1 hml hL0 hL1 hn hnm h0 h1 hl hWB hWN ht0 ht1 hr0 hr1 hlines hln hln0 hs0 hs1 hsh hE C0 hbd hVW
  go_enter Tryz.func25, Tryz.ntmps25
  go_upto_region 3 with (go_at_call 46; refine Calls.mono HC0.out ?_; rintro e w1 ⟨rfl, h1, h2⟩; have H1 : Hid (BD (q + 1) (q + 1) (wrB p 0) w1 ∧ Below (q + 1) W w1) := ⟨h1, HV.out.1.trans h2⟩; clear h1 h2)
  have c1 := (HP.out w1 H1.out.2).c1
  have c2 := (HP.out w1 H1.out.2).c2
  go_wp2
  clear c1 c2
  go_loopw [11] (fun v11 wr => ∃ j : Nat, j ≤ 2 ∧ v11 = .int .i64 j ∧ BD (q + 1) (q + 1) (wrB p j) wr ∧ Below (q + 1) W wr) (fun v _ => 2 - (intOf v).toNat)
  case atStart => exact ⟨0, Nat.zero_le _, rfl, H1.out⟩
  case round =>
    obtain ⟨j, hj, rfl, hb, hx⟩ := hrel
    rcases (by omega : j = 0 ∨ j = 1 ∨ j = 2) with hj0 | hj1 | hj2
    · have HJ : Hid (j = 0) := hj0
      have bj : (j : Int) < 2 := by omega
      have hix : ∀ y, (Instr.index 23 (.agg #[.slice a0 L0 k0, .slice a1 L1 k1]) (.int .i64 j)).run Tryz.prog y = .ok (.slice a0 L0 k0) y := fun y => by
        rw [hj0]
        kernel_rfl
      have bL : (L0 : Int) ≤ 2 := by have := HN.out.2.2.2.2.1; omega
      by_cases hz : L0 = 0
      · have gz : ¬ (0 : Int) < (L0 : Int) := by omega
        have gz' : ¬ 0 < L0 := by omega
        have HB : Hid (BD (q + 1) (q + 1) (wrB p (j + 1)) wr ∧ Below (q + 1) W wr) := by
          refine ⟨?_, hx⟩
          have e : wrB p (j + 1) = wrB p j := by
            rw [hj0]
            show wr1 _ _ _ = _
            unfold wr1
            rw [if_pos (HN.out.2.2.1.trans hz)]
            rfl
          rw [e]
          exact hb
        clear hb hx hz hj hj0
        go_wp2
        exact ⟨⟨j + 1, by have := HJ.out; omega, congrArg (Value.int .i64) (by omega), HB.out⟩, by show 2 - ((j : Int) + 1).toNat < 2 - ((j : Int)).toNat; have := HJ.out; omega⟩
      · have gz : (0 : Int) < (L0 : Int) := by omega
        have gz' : 0 < L0 := by omega
        have CW := HW0.out 0 (.slice a0 L0 k0) p.b0 (by decide) HT.out.2.2.1 HT.out.1 (by rw [HN.out.2.2.1]; have := HN.out.2.2.2.2.1; omega) (wrB p j) (by have := HWB.out j; omega) wr (HP.out wr hx).old (by have := hx.size; have := HV.out.2.2; omega) hb
        have e : wrB p j ++ toL (row ((0 : Nat) : Int) p.b0) = wrB p (j + 1) := by
          rw [hj0]
          show _ = wr1 _ _ _
          unfold wr1
          rw [if_neg (by rw [HN.out.2.2.1]; exact hz)]
          rfl
        rw [e] at CW
        have CW' : Calls Tryz.prog 47 #[.pointer (some ⟨q + 1, 0, none⟩), .int .i64 (j : Int), .slice a0 L0 k0] wr fun e w' => e = .returned (.tuple #[]) ∧ BD (q + 1) (q + 1) (wrB p (j + 1)) w' ∧ Below (q + 1) wr w' := by
          rw [show ((j : Nat) : Int) = ((0 : Nat) : Int) by rw [hj0]]
          exact CW
        have HCW : Hid _ := CW'
        have HX : Hid (Below (q + 1) W wr) := hx
        clear CW CW' e hb hx hz hj hj0
        go_wp2_with (go_at_call 47; refine Calls.mono HCW.out ?_; rintro e w2 ⟨rfl, h1, h2⟩; have H2 : Hid (BD (q + 1) (q + 1) (wrB p (j + 1)) w2 ∧ Below (q + 1) W w2) := ⟨h1, HX.out.trans h2⟩; clear h1 h2 hix)
        exact ⟨⟨j + 1, by have := HJ.out; omega, congrArg (Value.int .i64) (by omega), H2.out⟩, by show 2 - ((j : Int) + 1).toNat < 2 - ((j : Int)).toNat; have := HJ.out; omega⟩
    · have HJ : Hid (j = 1) := hj1
      have bj : (j : Int) < 2 := by omega
      have hix : ∀ y, (Instr.index 23 (.agg #[.slice a0 L0 k0, .slice a1 L1 k1]) (.int .i64 j)).run Tryz.prog y = .ok (.slice a1 L1 k1) y := fun y => by
        rw [hj1]
        kernel_rfl
      have bL : (L1 : Int) ≤ 2 := by have := HN.out.2.2.2.2.2; omega
      by_cases hz : L1 = 0
      · have gz : ¬ (0 : Int) < (L1 : Int) := by omega
        have gz' : ¬ 0 < L1 := by omega
        have HB : Hid (BD (q + 1) (q + 1) (wrB p (j + 1)) wr ∧ Below (q + 1) W wr) := by
          refine ⟨?_, hx⟩
          have e : wrB p (j + 1) = wrB p j := by
            rw [hj1]
            show wr1 _ _ _ = _
            unfold wr1
            rw [if_pos (HN.out.2.2.2.1.trans hz)]
            rfl
          rw [e]
          exact hb
        clear hb hx hz hj hj1
        go_wp2
        exact ⟨⟨j + 1, by have := HJ.out; omega, congrArg (Value.int .i64) (by omega), HB.out⟩, by show 2 - ((j : Int) + 1).toNat < 2 - ((j : Int)).toNat; have := HJ.out; omega⟩
      · have gz : (0 : Int) < (L1 : Int) := by omega
        have gz' : 0 < L1 := by omega
        have CW := HW0.out 1 (.slice a1 L1 k1) p.b1 (by decide) HT.out.2.2.2 HT.out.2.1 (by rw [HN.out.2.2.2.1]; have := HN.out.2.2.2.2.2; omega) (wrB p j) (by have := HWB.out j; omega) wr (HP.out wr hx).old (by have := hx.size; have := HV.out.2.2; omega) hb
        have e : wrB p j ++ toL (row ((1 : Nat) : Int) p.b1) = wrB p (j + 1) := by
          rw [hj1]
          show _ = wr1 _ _ _
          unfold wr1
          rw [if_neg (by rw [HN.out.2.2.2.1]; exact hz)]
          rfl
        rw [e] at CW
        have CW' : Calls Tryz.prog 47 #[.pointer (some ⟨q + 1, 0, none⟩), .int .i64 (j : Int), .slice a1 L1 k1] wr fun e w' => e = .returned (.tuple #[]) ∧ BD (q + 1) (q + 1) (wrB p (j + 1)) w' ∧ Below (q + 1) wr w' := by
          rw [show ((j : Nat) : Int) = ((1 : Nat) : Int) by rw [hj1]]
          exact CW
        have HCW : Hid _ := CW'
        have HX : Hid (Below (q + 1) W wr) := hx
        clear CW CW' e hb hx hz hj hj1
        go_wp2_with (go_at_call 47; refine Calls.mono HCW.out ?_; rintro e w2 ⟨rfl, h1, h2⟩; have H2 : Hid (BD (q + 1) (q + 1) (wrB p (j + 1)) w2 ∧ Below (q + 1) W w2) := ⟨h1, HX.out.trans h2⟩; clear h1 h2 hix)
        exact ⟨⟨j + 1, by have := HJ.out; omega, congrArg (Value.int .i64) (by omega), H2.out⟩, by show 2 - ((j : Int) + 1).toNat < 2 - ((j : Int)).toNat; have := HJ.out; omega⟩
    · have b1 : ¬ (j : Int) < 2 := by omega
      have HB : Hid (BD (q + 1) (q + 1) (wrB p 2) wr ∧ Below (q + 1) W wr) := by
        refine ⟨?_, hx⟩
        rw [hj2] at hb
        exact hb
      have c1 := (HP.out wr hx).c1
      have c2 := (HP.out wr hx).c2
      have c3 := (HP.out wr hx).c3
      have bL0 : (L0 : Int) ≤ 2 := by have := HN.out.2.2.2.2.1; omega
      have bL1 : (L1 : Int) ≤ 2 := by have := HN.out.2.2.2.2.2; omega
      clear hb hx hj hj2
      by_cases hz : 0 < L0 + L1
      · have gz : (0 : Int) < (L0 : Int) + (L1 : Int) := by omega
        have e : wrB p 2 ++ toL ⟨#[32, 32, 46, 46, 46, 10]⟩ = wrN p 0 := by
          show _ = wrD p
          unfold wrD
          rw [if_pos (by rw [HN.out.2.2.1, HN.out.2.2.2.1]; exact hz)]
        have CW := bwrite_any (q + 1) (q + 1) _ ⟨#[32, 32, 46, 46, 46, 10]⟩ wr HB.out.1 (by have := HWB.out 2; show _ + 6 ≤ _; omega) (by have := HB.out.2.size; have := HV.out.2.2; omega)
        rw [e] at CW
        have HCW : Hid _ := CW
        clear CW e hz
        go_upto_region 11 with (go_at_call 46; refine Calls.mono HCW.out ?_; rintro e w2 ⟨rfl, h1, h2⟩; have HD : Hid (BD (q + 1) (q + 1) (wrN p 0) w2 ∧ Below (q + 1) W w2) := ⟨h1, HB.out.2.trans h2⟩; clear h1 h2 c1 c2 c3)
        have c3 := (HP.out w2 HD.out.2).c3
        go_wp2
        clear c3
        go_loopw [36] (fun v36 wr => ∃ i : Nat, i ≤ n ∧ v36 = .int .i64 i ∧ BD (q + 1) (q + 1) (wrN p i) wr ∧ Below (q + 1) W wr) (fun v _ => n - (intOf v).toNat)
        case atStart => exact ⟨0, Nat.zero_le _, rfl, HD.out⟩
        case round =>
          obtain ⟨i, hi, rfl, hb, hx⟩ := hrel
          have hWi := HWN.out i (by rw [HN.out.1]; exact hi)
          have h24 := HN.out.2.1
          by_cases hlt : i < n
          · have b1 : (i : Int) < (n : Int) := by omega
            have bn : (n : Int) ≤ 24 := by omega
            obtain ⟨b, o, a2, n2, c2, rfl, hc, hrn, hn2⟩ := HAT.out i hlt
            have x0 := (hc _ (by rw [hq]; exact (HP.out _ hx).old)).1
            have x1 := (hc _ (by rw [hq]; exact (HP.out _ hx).old)).2
            have hmem : p.ln.getD i (0, []) ∈ p.ln := by
              have hk' : i < p.ln.length := by rw [HN.out.1]; exact hlt
              rw [show p.ln.getD i (0, []) = p.ln[i] by simp [List.getD, hk']]
              exact List.getElem_mem _
            obtain ⟨hf01, htt, hl24⟩ := HLN.out _ hmem
            have hwn : wrN p (i + 1) = wrN p i ++ toL (row (p.ln.getD i (0, [])).1 (p.ln.getD i (0, [])).2) := rfl
            obtain ⟨⟨f, TS⟩, hfT⟩ : ∃ l, p.ln.getD i (0, []) = l := ⟨_, rfl⟩
            rw [hfT] at x0 hrn hn2 hf01 htt hl24 hwn
            simp only at x0 hrn hn2 hf01 htt hl24 hwn
            obtain ⟨s, hs⟩ : ∃ s : Nat, f = (s : Int) := ⟨f.toNat, by omega⟩
            rw [hs] at x0 hwn
            obtain ⟨m, hm⟩ : ∃ m, wr.heap.size = m := ⟨_, rfl⟩
            have hal : Below (wr.heap.size) wr (wr.alloc (.cells #[.int .i64 s, .slice a2 n2 c2] 43)) := (Below.refl _ _).alloc (Nat.le_refl _) _
            have hxa : Below (q + 1) W (wr.alloc (.cells #[.int .i64 s, .slice a2 n2 c2] 43)) := hx.trans (hal.mono (by have := hx.size; have := HV.out.2.2; omega))
            have CW := HW0.out s (.slice a2 n2 c2) TS (by omega) hrn htt hl24 (wrN p i) (by omega) _ (HP.out _ hxa).old (by have := hxa.size; have := HV.out.2.2; omega) (hb.below hal)
            rw [← hwn] at CW
            have HCW : Hid _ := CW
            have HX : Hid (Below (q + 1) W (wr.alloc (.cells #[.int .i64 s, .slice a2 n2 c2] 43))) := hxa
            clear CW hwn hmem hf01 htt hl24 hfT hs hc hrn hn2 hxa hal hb hx hWi hi
            go_wp2_with (go_at_call 47; refine Calls.mono HCW.out ?_; rintro e w2 ⟨rfl, h1, h2⟩; have H2 : Hid (BD (q + 1) (q + 1) (wrN p (i + 1)) w2 ∧ Below (q + 1) W w2) := ⟨h1, HX.out.trans h2⟩; clear h1 h2 x0 x1)
            exact ⟨⟨i + 1, hlt, congrArg (Value.int .i64) (by omega), H2.out⟩, by show n - ((i : Int) + 1).toNat < n - ((i : Int)).toNat; omega⟩
          · have b1 : ¬ (i : Int) < (n : Int) := by omega
            have e : wrN p i = wrt p := by unfold wrt; rw [HN.out.1, show i = n by omega]
            rw [e] at hb
            have CS := bstring_any (q + 1) (q + 1) (wrt p) _ hb (by have := hx.size; have := HV.out.2.2; omega)
            have HCS : Hid _ := CS
            have HX := hx
            have HXX : Hid _ := HX
            clear CS e hb hx HX hWi hi
            go_wp2_with (go_at_call 48; refine Calls.mono HCS.out ?_; rintro e w2 ⟨rfl, h2⟩; have H2 : Hid (Below (q + 1) W w2) := HXX.out.trans h2; clear h2)
            go_ret
            exact ⟨rfl, by first | exact (HP.out _ H2.out).old | (rw [hq]; exact (HP.out _ H2.out).old)⟩
      · have gz : ¬ (0 : Int) < (L0 : Int) + (L1 : Int) := by omega
        have HD : Hid (BD (q + 1) (q + 1) (wrN p 0) wr ∧ Below (q + 1) W wr) := by
          refine ⟨?_, HB.out.2⟩
          have e : wrN p 0 = wrB p 2 := by
            show wrD p = _
            unfold wrD
            rw [if_neg (by rw [HN.out.2.2.1, HN.out.2.2.2.1]; exact hz)]
          rw [e]
          exact HB.out.1
        clear hz
        go_wp2
        clear c1 c2 c3
        go_loopw [36] (fun v36 wr => ∃ i : Nat, i ≤ n ∧ v36 = .int .i64 i ∧ BD (q + 1) (q + 1) (wrN p i) wr ∧ Below (q + 1) W wr) (fun v _ => n - (intOf v).toNat)
        case atStart => exact ⟨0, Nat.zero_le _, rfl, HD.out⟩
        case round =>
          obtain ⟨i, hi, rfl, hb, hx⟩ := hrel
          have hWi := HWN.out i (by rw [HN.out.1]; exact hi)
          have h24 := HN.out.2.1
          by_cases hlt : i < n
          · have b1 : (i : Int) < (n : Int) := by omega
            have bn : (n : Int) ≤ 24 := by omega
            obtain ⟨b, o, a2, n2, c2, rfl, hc, hrn, hn2⟩ := HAT.out i hlt
            have x0 := (hc _ (by rw [hq]; exact (HP.out _ hx).old)).1
            have x1 := (hc _ (by rw [hq]; exact (HP.out _ hx).old)).2
            have hmem : p.ln.getD i (0, []) ∈ p.ln := by
              have hk' : i < p.ln.length := by rw [HN.out.1]; exact hlt
              rw [show p.ln.getD i (0, []) = p.ln[i] by simp [List.getD, hk']]
              exact List.getElem_mem _
            obtain ⟨hf01, htt, hl24⟩ := HLN.out _ hmem
            have hwn : wrN p (i + 1) = wrN p i ++ toL (row (p.ln.getD i (0, [])).1 (p.ln.getD i (0, [])).2) := rfl
            obtain ⟨⟨f, TS⟩, hfT⟩ : ∃ l, p.ln.getD i (0, []) = l := ⟨_, rfl⟩
            rw [hfT] at x0 hrn hn2 hf01 htt hl24 hwn
            simp only at x0 hrn hn2 hf01 htt hl24 hwn
            obtain ⟨s, hs⟩ : ∃ s : Nat, f = (s : Int) := ⟨f.toNat, by omega⟩
            rw [hs] at x0 hwn
            obtain ⟨m, hm⟩ : ∃ m, wr.heap.size = m := ⟨_, rfl⟩
            have hal : Below (wr.heap.size) wr (wr.alloc (.cells #[.int .i64 s, .slice a2 n2 c2] 43)) := (Below.refl _ _).alloc (Nat.le_refl _) _
            have hxa : Below (q + 1) W (wr.alloc (.cells #[.int .i64 s, .slice a2 n2 c2] 43)) := hx.trans (hal.mono (by have := hx.size; have := HV.out.2.2; omega))
            have CW := HW0.out s (.slice a2 n2 c2) TS (by omega) hrn htt hl24 (wrN p i) (by omega) _ (HP.out _ hxa).old (by have := hxa.size; have := HV.out.2.2; omega) (hb.below hal)
            rw [← hwn] at CW
            have HCW : Hid _ := CW
            have HX : Hid (Below (q + 1) W (wr.alloc (.cells #[.int .i64 s, .slice a2 n2 c2] 43))) := hxa
            clear CW hwn hmem hf01 htt hl24 hfT hs hc hrn hn2 hxa hal hb hx hWi hi
            go_wp2_with (go_at_call 47; refine Calls.mono HCW.out ?_; rintro e w2 ⟨rfl, h1, h2⟩; have H2 : Hid (BD (q + 1) (q + 1) (wrN p (i + 1)) w2 ∧ Below (q + 1) W w2) := ⟨h1, HX.out.trans h2⟩; clear h1 h2 x0 x1)
            exact ⟨⟨i + 1, hlt, congrArg (Value.int .i64) (by omega), H2.out⟩, by show n - ((i : Int) + 1).toNat < n - ((i : Int)).toNat; omega⟩
          · have b1 : ¬ (i : Int) < (n : Int) := by omega
            have e : wrN p i = wrt p := by unfold wrt; rw [HN.out.1, show i = n by omega]
            rw [e] at hb
            have CS := bstring_any (q + 1) (q + 1) (wrt p) _ hb (by have := hx.size; have := HV.out.2.2; omega)
            have HCS : Hid _ := CS
            have HX := hx
            have HXX : Hid _ := HX
            clear CS e hb hx HX hWi hi
            go_wp2_with (go_at_call 48; refine Calls.mono HCS.out ?_; rintro e w2 ⟨rfl, h2⟩; have H2 : Hid (Below (q + 1) W w2) := HXX.out.trans h2; clear h2)
            go_ret
            exact ⟨rfl, by first | exact (HP.out _ H2.out).old | (rw [hq]; exact (HP.out _ H2.out).old)⟩
end Go.Proofs.YtpfidohkohldaaaGreatDoor
namespace Go.Proofs.YtpfidohkohldaaaGreatDoor
set_option linter.unusedSimpArgs false
set_option linter.unusedVariables false
set_option maxRecDepth 100000
open Go.ChangeShapes Go.WideShapes Go.ChangeAt Go.RowKit Go.Pin Go.Pat Go.Deep
def PrtC0 (ea : Int → Addr) : Prop := ∀ (v : Value) (p : Pt) (W : World), Errs ea W → RdP W v p → p.nm.size ≤ 140737488355328 →
  Calls Tryz.prog 14 #[v] W fun e w' => e = .returned (.tuple #[.string (prn p).1, EV ea (prn p).2]) ∧ Below W.heap.size W w'
set_option maxHeartbeats 4000000 in
theorem pprint_any {ea : Int → Addr} : PrtC0 ea := by
  intro v p w hE h hnz
  have hck := fun (W : World) (hW : Below w.heap.size w W) => pcheck_any (ea := ea) v p W (hE.below hW) (h.below hW)
  have hwr := fun (hs : shaped p = true) (W : World) (hW : Below w.heap.size w W) => written_any (ea := ea) v p W (hE.below hW) (h.below hW) hs
  have hin := fun (W : World) => pisName_any p.nm hnz W
  obtain ⟨v0, v1, vl, rfl, h0, h1, hl⟩ := h
  have hst := pb_start w p.nm v0 v1 vl
  obtain ⟨q, hq⟩ : ∃ q, w.heap.size = q := ⟨_, rfl⟩
  rw [hq] at hst hck hwr
  obtain ⟨W, hW⟩ : ∃ W, w.alloc (.cells #[.string p.nm, v0, v1, vl] 26) = W := ⟨_, rfl⟩
  rw [hW] at hst
  have HP : Hid (PB q w p.nm v0 v1 vl W) := hst
  have HE : Hid (∀ y, Below q w y → Errs ea y) := fun y hy => hE.below (by rw [hq]; exact hy)
  have c0 := hst.c0
  have c1 := hst.c1
  have c2 := hst.c2
  have c3 := hst.c3
  by_cases hc : chk p = 0
  · have hsh := chk_shaped hc
    have hw2 := hwr hsh
    rw [hc, EV_0] at hck
    obtain ⟨nm, hnm⟩ : ∃ nm, p.nm = nm := ⟨_, rfl⟩
    obtain ⟨n, hn⟩ : ∃ n, nm.size = n := ⟨_, rfl⟩
    have htx := congrArg List.length (txt_wrt p)
    rw [List.length_append, toL_len, toL_len, hnm, hn] at htx
    have hwl : (wrt p).length ≤ 100000 := by
      have := wrN_len p hsh p.ln.length (Nat.le_refl _)
      have := (shaped_all hsh).2.2.2.1
      unfold wrt
      omega
    have htxe : nm ++ (⟨(wrt p).toArray⟩ : ByteArray) = txt p := toL_inj (by rw [toL_app, txt_wrt, hnm])
    obtain ⟨S, hS⟩ : ∃ S : ByteArray, (⟨(wrt p).toArray⟩ : ByteArray) = S := ⟨_, rfl⟩
    have hSz : S.size = (wrt p).length := by rw [← hS]; exact List.size_toArray
    obtain ⟨m, hm⟩ : ∃ m, S.size = m := ⟨_, rfl⟩
    have HPR : Hid (prn p = if isNm nm = false ∨ 4096 < n + m then (⟨#[]⟩, 8) else (nm ++ S, 0)) := by
      show prn p = _
      unfold prn
      rw [if_neg (by simp [hc]), hnm, hn, ← hS, htxe]
      have hm' : (wrt p).length = m := by rw [← hSz, hm]
      rw [hm'] at htx
      cases hi : isNm nm with
      | false => simp
      | true =>
        by_cases hbig : 4096 < n + m
        · by_cases h4 : 4096 < n
          · simp [h4, hbig]
          · rw [if_neg (fun h => by rcases h with h | h; omega; simp at h), if_pos (by omega), if_pos (.inr hbig)]
        · rw [if_neg (fun h => by rcases h with h | h; omega; simp at h), if_neg (by omega), if_neg (fun h => by rcases h with h | h; simp at h; omega)]
    rw [hS] at hw2
    rw [hnm] at HP hin hnz c0 hck hw2 hW
    rw [hn] at hnz
    rw [hnm]
    have bm : (m : Int) ≤ 100000 := by omega
    have bn : (n : Int) ≤ 140737488355328 := by omega
    have HCK : Hid _ := hck
    have HWR : Hid _ := hw2
    clear hst hck hwr hw2 hE h0 h1 hl hc hsh htx hwl htxe hS hSz
    cases hi : isNm nm with
    | false =>
      rw [hi] at hin
      have HR : Hid (prn p = (⟨#[]⟩, 8)) := by show prn p = _; rw [HPR.out, hi, if_pos (.inl rfl)]
      go_enter Tryz.func14, Tryz.ntmps14
      go_upto_region 6 with (first
        | (go_at_call 18; refine (HCK.out _ HP.out.old).mono ?_; rintro e w1 ⟨rfl, hw⟩; have HW : Hid (PB q w nm v0 v1 vl w1) := HP.out.below hw; have d0 := HW.out.c0; have d1 := HW.out.c1; have d2 := HW.out.c2; have d3 := HW.out.c3; clear hw c0 c1 c2 c3)
        | (go_at_call 25; refine (HWR.out _ HW.out.old).mono ?_; rintro e w2 ⟨rfl, hw⟩; have HW2 : Hid (PB q w nm v0 v1 vl w2) := HW.out.below hw; have f0 := HW2.out.c0; clear hw d0 d1 d2 d3)
        | (go_at_call 26; refine (hin _).mono ?_; rintro e w3 ⟨rfl, rfl⟩))
      have e2 := ((HE.out _ HW2.out.old).1 8 (by decide)).1
      simp only [eblk] at e2
      go_region
      go_wp2
      go_ret2
      exact ⟨by rw [HR.out]; rfl, by rw [hq]; exact drew_below HW2.out.old⟩
    | true =>
      rw [hi] at hin
      by_cases hbig : 4096 < n + m
      · have HR : Hid (prn p = (⟨#[]⟩, 8)) := by show prn p = _; rw [HPR.out, hi, if_pos (.inr hbig)]
        have g1 : (4096 : Int) < (n : Int) + (m : Int) := by omega
        clear hbig
        go_enter Tryz.func14, Tryz.ntmps14
        go_upto_region 6 with (first
          | (go_at_call 18; refine (HCK.out _ HP.out.old).mono ?_; rintro e w1 ⟨rfl, hw⟩; have HW : Hid (PB q w nm v0 v1 vl w1) := HP.out.below hw; have d0 := HW.out.c0; have d1 := HW.out.c1; have d2 := HW.out.c2; have d3 := HW.out.c3; clear hw c0 c1 c2 c3)
          | (go_at_call 25; refine (HWR.out _ HW.out.old).mono ?_; rintro e w2 ⟨rfl, hw⟩; have HW2 : Hid (PB q w nm v0 v1 vl w2) := HW.out.below hw; have f0 := HW2.out.c0; clear hw d0 d1 d2 d3)
          | (go_at_call 26; refine (hin _).mono ?_; rintro e w3 ⟨rfl, rfl⟩))
        have e2 := ((HE.out _ HW2.out.old).1 8 (by decide)).1
        simp only [eblk] at e2
        go_region
        go_wp2
        go_ret2
        exact ⟨by rw [HR.out]; rfl, by rw [hq]; exact drew_below HW2.out.old⟩
      · have HR : Hid (prn p = (nm ++ S, 0)) := by show prn p = _; rw [HPR.out, hi, if_neg (fun h => by rcases h with h | h; simp at h; omega)]
        have g1 : ¬ (4096 : Int) < (n : Int) + (m : Int) := by omega
        clear hbig
        go_enter Tryz.func14, Tryz.ntmps14
        go_wp2_with (first
          | (go_at_call 18; refine (HCK.out _ HP.out.old).mono ?_; rintro e w1 ⟨rfl, hw⟩; have HW : Hid (PB q w nm v0 v1 vl w1) := HP.out.below hw; have d0 := HW.out.c0; have d1 := HW.out.c1; have d2 := HW.out.c2; have d3 := HW.out.c3; clear hw c0 c1 c2 c3)
          | (go_at_call 25; refine (HWR.out _ HW.out.old).mono ?_; rintro e w2 ⟨rfl, hw⟩; have HW2 : Hid (PB q w nm v0 v1 vl w2) := HW.out.below hw; have f0 := HW2.out.c0; clear hw d0 d1 d2 d3)
          | (go_at_call 26; refine (hin _).mono ?_; rintro e w3 ⟨rfl, rfl⟩))
        go_ret2
        exact ⟨by rw [HR.out]; rfl, by rw [hq]; exact HW2.out.old⟩
  · have HR : Hid (prn p = (⟨#[]⟩, chk p)) := by show prn p = _; unfold prn; rw [if_pos hc]
    rw [EV_ne hc] at hck
    have HC : Hid (chk p ≠ 0) := hc
    have HCK : Hid _ := hck
    clear hst hck hwr hin hE h0 h1 hl hc
    go_enter Tryz.func14, Tryz.ntmps14
    go_wp2_with (first
      | (go_at_call 18; refine (HCK.out _ HP.out.old).mono ?_; rintro e w1 ⟨rfl, hw⟩; have HW : Hid (PB q w p.nm v0 v1 vl w1) := HP.out.below hw; clear hw c0 c1 c2 c3))
    go_ret2
    exact ⟨by rw [HR.out, EV_ne HC.out]; rfl, by rw [hq]; exact HW.out.old⟩
end Go.Proofs.YtpfidohkohldaaaGreatDoor
