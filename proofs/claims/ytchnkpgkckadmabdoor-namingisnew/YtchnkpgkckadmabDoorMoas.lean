import Derived.Test.YtchnkpgkckadmabDoorMoar
import Derived.Test.YtchnkpgkckadmabDoorMoap
namespace Go.Proofs.YtchnkpgkckadmabDoor
set_option linter.unusedSimpArgs false
set_option linter.unusedVariables false
set_option maxRecDepth 100000
open Go.ChangeShapes Go.WideShapes Go.ChangeAt Go.RowKit Go.Pin Go.Pat Go.Deep
theorem wpCallP {P : Program} {o : Oper} {a : Act} {w : World} {K : Act → World → Prop} {Q : Exit → Act → World → Prop} {f : Nat} {xs : Array Operand} {ts : Array TypeId} {args : Array Value} {ch : List PanicEntry} {R : World → Prop}
    (ho : o.op = .call { callee := .value (.func f), args := xs, argTypes := ts }) (ha : xs.map a.eval = args) (hen : ∀ w, (callFunc f args).run P w = .ok (.enter f args) w) (hc : Calls P f args w fun e w' => e = .panicked ch ∧ R w') (h : ∀ w', R w' → Q (.panic ch) a w') : Oper.wp P o a w K Q := by
  unfold Oper.wp execOp
  simp only [ho]
  go_simp
  refine hc.mono ?_
  rintro e w' ⟨rfl, hr⟩
  exact h w' hr
abbrev lvd : Lv := (0, .slice none 0 0, [])
/-- what is known, by the first rows -/
def KVn (fs : List Lv) : Nat → Value × Value
  | 0 => (.slice none 0 0, .slice none 0 0)
  | i + 1 => if (fs.getD i lvd).1 = 0 then ((fs.getD i lvd).2.1, (KVn fs i).2) else ((KVn fs i).1, (fs.getD i lvd).2.1)
def Lv01 (fs : List Lv) : Prop := ∀ f ∈ fs, f.1 = 0 ∨ f.1 = 1
theorem knw_fall {fs : List Lv} {i : Nat} (hi : i + 1 < fs.length) (hr : ∀ j, j + 1 < i + 1 → (fs.getD j lvd).1 < (fs.getD (j + 1) lvd).1) (h : ¬ (fs.getD i lvd).1 < (fs.getD (i + 1) lvd).1) (h01 : Lv01 fs) : knw (lvl fs) = none := by
  match fs, hi, hr, h, h01 with
  | [x, y], hi, hr, h, _ =>
    obtain rfl : i = 0 := by simp at hi; omega
    have h' : ¬ x.1 < y.1 := h
    show (if x.1 < y.1 then _ else _) = none
    rw [if_neg h']
  | x :: y :: z :: r, _, _, _, _ => rfl
theorem knw_rise {fs : List Lv} (h0 : 0 < fs.length) (hr : ∀ j, j + 1 < fs.length → (fs.getD j lvd).1 < (fs.getD (j + 1) lvd).1) (h01 : Lv01 fs) : ∃ b0 b1, knw (lvl fs) = some (b0, b1) := by
  match fs, h0, hr, h01 with
  | [x], _, _, _ =>
    have : knw (lvl [x]) = if x.1 = 0 then some (x.2.2, []) else some ([], x.2.2) := rfl
    rw [this]
    split
    · exact ⟨_, _, rfl⟩
    · exact ⟨_, _, rfl⟩
  | [x, y], _, hr, _ =>
    have h' : x.1 < y.1 := hr 0 (by simp)
    refine ⟨x.2.2, y.2.2, ?_⟩
    show (if x.1 < y.1 then _ else _) = _
    rw [if_pos h']
  | x :: y :: z :: r, _, hr, h01 =>
    have h1 : x.1 < y.1 := hr 0 (by simp)
    have h2 : y.1 < z.1 := hr 1 (by simp)
    have k1 := h01 x (by simp)
    have k2 := h01 y (by simp)
    have k3 := h01 z (by simp)
    omega
/-- what is known is what the rows say -/
theorem knw_kv {S : Nat → Prop} {w : World} {fs : List Lv} {b0 b1 : List Int} (h : knw (lvl fs) = some (b0, b1)) (hf : ∀ f ∈ fs, FtN S w f.2.1 f.2.2) (h01 : Lv01 fs) : FtN S w (KVn fs fs.length).1 b0 ∧ FtN S w (KVn fs fs.length).2 b1 := by
  match fs, h, hf, h01 with
  | [], h, _, _ => simp [lvl, knw] at h
  | [x], h, hf, h01 =>
    have e : knw (lvl [x]) = if x.1 = 0 then some (x.2.2, []) else some ([], x.2.2) := rfl
    rw [e] at h
    have hk : KVn [x] [x].length = if x.1 = 0 then (x.2.1, .slice none 0 0) else (.slice none 0 0, x.2.1) := rfl
    rw [hk]
    split at h
    · rename_i h0
      injection h with h
      injection h with h1 h2
      subst h1 h2
      rw [if_pos h0]
      exact ⟨hf x (by simp), ft_nil _ _⟩
    · rename_i h0
      injection h with h
      injection h with h1 h2
      subst h1 h2
      rw [if_neg h0]
      exact ⟨ft_nil _ _, hf x (by simp)⟩
  | [x, y], h, hf, h01 =>
    have e : knw (lvl [x, y]) = if x.1 < y.1 then some (x.2.2, y.2.2) else none := rfl
    rw [e] at h
    have hk : KVn [x, y] [x, y].length = if y.1 = 0 then (y.2.1, (KVn [x, y] 1).2) else ((KVn [x, y] 1).1, y.2.1) := rfl
    have hk1 : KVn [x, y] 1 = if x.1 = 0 then (x.2.1, .slice none 0 0) else (.slice none 0 0, x.2.1) := rfl
    split at h
    · rename_i hlt
      injection h with h
      injection h with h1 h2
      subst h1 h2
      have k1 := h01 x (by simp)
      have k2 := h01 y (by simp)
      rw [hk, if_neg (by omega), hk1, if_pos (by omega)]
      exact ⟨hf x (by simp), hf y (by simp)⟩
    · simp at h
  | _ :: _ :: _ :: _, h, _, _ => simp [lvl, knw] at h
theorem KVn_sl {fs : List Lv} (hf : ∀ f ∈ fs, ∃ a n c, f.2.1 = .slice a n c) : ∀ i, i ≤ fs.length → (∃ a n c, (KVn fs i).1 = .slice a n c) ∧ ∃ a n c, (KVn fs i).2 = .slice a n c
  | 0, _ => ⟨⟨_, _, _, rfl⟩, _, _, _, rfl⟩
  | i + 1, h => by
    have ih := KVn_sl hf i (by omega)
    have hm : fs.getD i lvd ∈ fs := by
      rw [show fs.getD i lvd = fs[i] by simp [List.getD, show i < fs.length by omega]]
      exact List.getElem_mem _
    unfold KVn
    split
    · exact ⟨hf _ hm, ih.2⟩
    · exact ⟨ih.1, hf _ hm⟩
def KnP (ea : Int → Addr) (fs : List Lv) (w : World) (e : Ending) (w' : World) : Prop :=
  Below w.heap.size w w' ∧ match knw (lvl fs) with
    | none => e = PN ea
    | some _ => e = .returned (.agg #[(KVn fs fs.length).1, (KVn fs fs.length).2])
/-- what is known so far, in its box -/
structure KS (n : Nat) (w : World) (k : Value × Value) (wr : World) : Prop where
  old : Below n w wr
  lt : n < wr.heap.size
  row : wr.heap[n]? = some (.cells #[k.1, k.2] 26)
section
variable {n : Nat} {w wr w' : World} {k : Value × Value}
theorem KS.below (h : KS n w k wr) (hb : Below wr.heap.size wr w') : KS n w k w' :=
  ⟨h.old.trans (hb.mono (by have := h.lt; omega)), Nat.lt_of_lt_of_le h.lt hb.size, (hb.block _ h.lt).trans h.row⟩
theorem KS.c (h : KS n w k wr) (i : Nat) (hi : i < 2) : wr.cell? ⟨n, i, none⟩ = some (if i = 0 then k.1 else k.2) := by
  rw [cell_of_row _ _ _ _ _ _ h.row]
  rcases (by omega : i = 0 ∨ i = 1) with rfl | rfl <;> rfl
theorem KS.f (h : KS n w k wr) (i : Nat) : wr.frozen? ⟨n, i, none⟩ = false := frozen_of_row _ _ _ _ _ h.row
theorem KS.set0 (h : KS n w k wr) (u : Value) : KS n w (u, k.2) (wr.setCell ⟨n, 0, none⟩ u) := by
  refine ⟨h.old.setCell (Nat.le_refl _) _, by simpa using h.lt, ?_⟩
  rw [Go.heap_setCell_same _ _ _ _ _ _ h.row]
  rfl
theorem KS.set1 (h : KS n w k wr) (u : Value) : KS n w (k.1, u) (wr.setCell ⟨n, 1, none⟩ u) := by
  refine ⟨h.old.setCell (Nat.le_refl _) _, by simpa using h.lt, ?_⟩
  rw [Go.heap_setCell_same _ _ _ _ _ _ h.row]
  rfl
end
set_option maxHeartbeats 4000000 in
theorem knownOf_any {ea : Int → Addr} (q : Nat) (vl : Value) (fs : List Lv) (w : World) (hE : Errs ea w) (hown : w.ownsRow q 36 2 vl fs.length (lvc fs)) (h01 : Lv01 fs) (hsl : ∀ f ∈ fs, ∃ a n c, f.2.1 = .slice a n c) (hn4 : fs.length ≤ 4096) :
    Calls Tryd.prog 43 #[vl] w (KnP ea fs w) := by
  obtain ⟨a, cap, rfl⟩ := own_slice' hown
  obtain ⟨n, hn⟩ : ∃ n, w.heap.size = n := ⟨_, rfl⟩
  obtain ⟨L, hL⟩ : ∃ L, fs.length = L := ⟨_, rfl⟩
  have hcell : ∀ j, j < L → ∃ g, a = some ⟨g, 0, none⟩ ∧ ∀ y, Below n w y → y.cell? ⟨g, j * 2, none⟩ = some (.int .i64 (fs.getD j lvd).1) ∧ y.cell? ⟨g, j * 2 + 1, none⟩ = some (fs.getD j lvd).2.1 := fun j hj => by
    obtain ⟨k1, k2⟩ := lvc_at fs j (by omega)
    obtain ⟨g, e1, _, c1⟩ := (own_cell hown).2 _ _ k1
    obtain ⟨g', e2, _, c2⟩ := (own_cell hown).2 _ _ k2
    rw [e1] at e2
    injection e2 with e2
    injection e2 with e2
    subst e2
    have hj' : j < fs.length := by omega
    have ed : fs.getD j (0, undef, []) = fs.getD j lvd := by simp [List.getD, hj']
    rw [ed] at c1 c2
    refine ⟨g, e1, fun y hy => ⟨?_, ?_⟩⟩
    · exact cell_below (by rw [hn]; exact hy) c1
    · exact cell_below (by rw [hn]; exact hy) c2
  rw [hL]
  have HC : Hid (∀ j, j < L → _) := hcell
  have HL : Hid (fs.length = L ∧ L ≤ 4096 ∧ w.heap.size = n) := ⟨hL, by omega, hn⟩
  have H01 : Hid (Lv01 fs) := h01
  have HSL : Hid (∀ f ∈ fs, ∃ a n c, f.2.1 = .slice a n c) := hsl
  have HE : Hid (∀ y, Below n w y → Errs ea y) := fun y hy => hE.below (by rw [hn]; exact hy)
  have bL : (L : Int) ≤ 4096 := by omega
  by_cases h0 : L = 0
  · have HR : Hid (knw (lvl fs) = none) := by
      show knw (lvl fs) = none
      rw [List.length_eq_zero_iff.1 (hL.trans h0)]
      rfl
    have g0 : ¬ (0 : Int) < (L : Int) := by omega
    have g0' : ¬ 0 < L := by omega
    obtain ⟨V, hV⟩ : ∃ V, w.alloc (.cells #[.slice none 0 0, .slice none 0 0] 26) = V := ⟨_, rfl⟩
    have hVb : Below n w V := by rw [← hV, ← hn]; exact (Below.refl _ _).alloc (Nat.le_refl _) _
    have CM := must_no V (HE.out V hVb)
    have HVB : Hid (Below n w V) := hVb
    clear h0 hcell hL h01 hsl hE hown hn4 hVb
    go_enter Tryd.func43, Tryd.ntmps43
    go_wp2_with (go_at_call 44; refine CM.mono ?_; rintro e w1 ⟨rfl, rfl⟩)
    refine ⟨rfl, by rw [hn]; exact HVB.out, ?_⟩
    rw [HR.out]
  have g0 : (0 : Int) < (L : Int) := by omega
  have g0' : 0 < L := by omega
  have hks : KS n w (KVn fs 0) (w.alloc (.cells #[.slice none 0 0, .slice none 0 0] 26)) := by
    rw [← hn]
    exact ⟨(Below.refl _ _).alloc (Nat.le_refl _) _, by simp [size_alloc], heap_alloc_new _ _⟩
  have HK0 : Hid _ := hks
  have CM := fun y => must_yes y
  clear h0 hcell hL h01 hsl hE hown hn4 hks
  go_enter Tryd.func43, Tryd.ntmps43
  go_wp2_with (go_at_call 44; refine (CM _).mono ?_; rintro e w1 ⟨rfl, rfl⟩)
  go_loopw [11] (fun v11 wr => ∃ i : Nat, i ≤ L ∧ v11 = .int .i64 i ∧ (∀ j, j + 1 < i → (fs.getD j lvd).1 < (fs.getD (j + 1) lvd).1) ∧ KS n w (KVn fs i) wr) (fun v _ => L - (intOf v).toNat)
  case atStart => exact ⟨0, Nat.zero_le _, rfl, fun j hj => by omega, HK0.out⟩
  case round =>
    obtain ⟨i, hi, rfl, hrs, hk⟩ := hrel
    have HK : Hid (KS n w (KVn fs i) wr) := hk
    by_cases hlt : i < L
    · have b1 : (i : Int) < (L : Int) := by omega
      obtain ⟨g, rfl, hc⟩ := HC.out i hlt
      have hil : i < fs.length := by have := HL.out.1; omega
      have hm : fs.getD i lvd ∈ fs := by
        rw [show fs.getD i lvd = fs[i] by simp [List.getD, hil]]
        exact List.getElem_mem _
      obtain ⟨ua, un, uc, hu⟩ := HSL.out _ hm
      have hf01 := H01.out _ hm
      obtain ⟨f, hf⟩ : ∃ f, (fs.getD i lvd).1 = f := ⟨_, rfl⟩
      have x0 := (hc wr hk.old).1
      have x1 := (hc wr hk.old).2
      rw [hf] at x0 hf01
      rw [hu] at x1
      have HF01 : Hid (f = 0 ∨ f = 1) := hf01
      have HFI : Hid (fs.getD i lvd = (f, .slice ua un uc, (fs.getD i lvd).2.2)) := by
        show fs.getD i lvd = _
        rw [← hf, ← hu]
      obtain ⟨m, hm2⟩ : ∃ m, wr.heap.size = m := ⟨_, rfl⟩
      obtain ⟨V, hV⟩ : ∃ V, wr.alloc (.cells #[.int .i64 f, .slice ua un uc] 36) = V := ⟨_, rfl⟩
      have hal : Below wr.heap.size wr V := by rw [← hV]; exact (Below.refl _ _).alloc (Nat.le_refl _) _
      have hVm : V.heap[m]? = some (.cells #[.int .i64 f, .slice ua un uc] 36) := by rw [← hV, ← hm2]; exact heap_alloc_new _ _
      have HVC : Hid (∀ y, Below V.heap.size V y → y.cell? ⟨m, 0, none⟩ = some (.int .i64 f) ∧ y.cell? ⟨m, 1, none⟩ = some (.slice ua un uc) ∧ KS n w (KVn fs i) y) := fun y hy => by
        have hym := (hy.block m (Array.getElem?_eq_some_iff.1 hVm).1).trans hVm
        refine ⟨?_, ?_, (HK.out.below hal).below hy⟩
        · rw [cell_of_row _ _ _ _ _ _ hym]; rfl
        · rw [cell_of_row _ _ _ _ _ _ hym]; rfl
      clear hk hf hu hm hf01 hc hal hVm hil
      go_upto_region 5 with fail
      try simp only [hm2, hV]
      clear hm2 hV x0 x1
      by_cases hi0 : i = 0
      · have gi : ((i : Int) == 0) = true := by simp [hi0]
        have gi' : decide ((i : Int) = 0) = true := by simp [hi0]
        have gin : (i == 0) = true := by simp [hi0]
        have gin' : decide (i = 0) = true := by simp [hi0]
        have HRS : Hid (∀ j, j + 1 < i + 1 → (fs.getD j lvd).1 < (fs.getD (j + 1) lvd).1) := fun j hj => by omega
        clear hi0 hrs hi
        refine Go.Pin.wp_region_cls (fun y => Below V.heap.size V y) (by kernel_rfl) (by kernel_rfl) ((Below.refl _ _).drew) ?_
        intro Sq fq hNq hRq hSq
        have y0 := fun x => (HVC.out _ (hRq x)).1
        have CF := fun x => must_yes (fq x)
        repeat (go_big_quiet_step (exact (CF _).mono (fun e w' h => ⟨h.1, by rw [h.2]; exact ⟨_, rfl⟩⟩)))
        refine wpQuiet_nil ?_
        intro _ hw'
        obtain ⟨xq, hw''⟩ := hw'
        subst hw''
        have HYq := hRq xq
        generalize fq xq = y at HYq ⊢
        have c0 := (HVC.out y HYq).1
        have c1 := (HVC.out y HYq).2.1
        have hks := (HVC.out y HYq).2.2
        have d0 := hks.c 0 (by decide)
        have d1 := hks.c 1 (by decide)
        have f0 := hks.f 0
        have f1 := hks.f 1
        have HKS : Hid (KS n w (KVn fs i) y) := hks
        clear hRq hSq hNq xq fq Sq y0 CF HYq hks
        rcases HF01.out with hf | hf
        · have HNX : Hid (KVn fs (i + 1) = (.slice ua un uc, (KVn fs i).2)) := by
            show KVn fs (i + 1) = _
            rw [KVn, HFI.out]
            simp [hf]
          subst hf
          go_wp2
          exact ⟨⟨i + 1, hlt, congrArg (Value.int .i64) (by omega), HRS.out, by rw [HNX.out]; exact HKS.out.set0 _⟩, by show L - ((i : Int) + 1).toNat < L - ((i : Int)).toNat; omega⟩
        · have HNX : Hid (KVn fs (i + 1) = ((KVn fs i).1, .slice ua un uc)) := by
            show KVn fs (i + 1) = _
            rw [KVn, HFI.out]
            simp [hf]
          subst hf
          go_wp2
          exact ⟨⟨i + 1, hlt, congrArg (Value.int .i64) (by omega), HRS.out, by rw [HNX.out]; exact HKS.out.set1 _⟩, by show L - ((i : Int) + 1).toNat < L - ((i : Int)).toNat; omega⟩
      · obtain ⟨k, hk⟩ : ∃ k, i = k + 1 := ⟨i - 1, by omega⟩
        obtain ⟨g', e, hc⟩ := HC.out k (by omega)
        injection e with e
        injection e with e
        subst e
        obtain ⟨f', hf'⟩ : ∃ f', (fs.getD k lvd).1 = f' := ⟨_, rfl⟩
        have HZ : Hid (∀ y, Below V.heap.size V y → y.cell? ⟨g, k * 2, none⟩ = some (.int .i64 f')) := fun y hy => by
          rw [← hf']
          exact (hc y (HVC.out y hy).2.2.old).1
        have gi : ((i : Int) == 0) = false := by simp; omega
        have gi' : decide ((i : Int) = 0) = false := by simp; omega
        have gin : (i == 0) = false := by simp; omega
        have gin' : decide (i = 0) = false := by simp; omega
        have bw : IntKind.i64.wrap ((i : Int) - 1) = (k : Int) := by rw [IntWalk.i64_in _ ⟨by omega, by omega⟩]; omega
        have bw' : wrap64 ((i : Int) - 1) = (k : Int) := by rw [IntWalk.wrap64_in _ ⟨by omega, by omega⟩]; omega
        have bkn : (k : Int) < (L : Int) := by omega
        have hif : (fs.getD (k + 1) lvd).1 = f := by rw [← hk, HFI.out]
        by_cases hff : f' < f
        · have HRS : Hid (∀ j, j + 1 < i + 1 → (fs.getD j lvd).1 < (fs.getD (j + 1) lvd).1) := fun j hj => by
            by_cases hjk : j = k
            · rw [hjk, hf', hif]; exact hff
            · exact hrs j (by omega)
          have gff : decide (f' < f) = true := by simp [hff]
          clear hi0 hrs hi hk hf' hif hc
          refine Go.Pin.wp_region_cls (fun y => Below V.heap.size V y) (by kernel_rfl) (by kernel_rfl) ((Below.refl _ _).drew) ?_
          intro Sq fq hNq hRq hSq
          have y0 := fun x => (HVC.out _ (hRq x)).1
          have y4 := fun x => HZ.out _ (hRq x)
          have CF := fun x => must_yes (fq x)
          repeat (go_big_quiet_step (exact (CF _).mono (fun e w' h => ⟨h.1, by rw [h.2]; exact ⟨_, rfl⟩⟩)))
          refine wpQuiet_nil ?_
          intro _ hw'
          obtain ⟨xq, hw''⟩ := hw'
          subst hw''
          have HYq := hRq xq
          generalize fq xq = y at HYq ⊢
          have c0 := (HVC.out y HYq).1
          have c1 := (HVC.out y HYq).2.1
          have hks := (HVC.out y HYq).2.2
          have d0 := hks.c 0 (by decide)
          have d1 := hks.c 1 (by decide)
          have f0 := hks.f 0
          have f1 := hks.f 1
          have HKS : Hid (KS n w (KVn fs i) y) := hks
          clear hRq hSq hNq xq fq Sq y0 y4 CF HYq hks
          rcases HF01.out with hf | hf
          · have HNX : Hid (KVn fs (i + 1) = (.slice ua un uc, (KVn fs i).2)) := by
              show KVn fs (i + 1) = _
              rw [KVn, HFI.out]
              simp [hf]
            subst hf
            go_wp2
            exact ⟨⟨i + 1, hlt, congrArg (Value.int .i64) (by omega), HRS.out, by rw [HNX.out]; exact HKS.out.set0 _⟩, by show L - ((i : Int) + 1).toNat < L - ((i : Int)).toNat; omega⟩
          · have HNX : Hid (KVn fs (i + 1) = ((KVn fs i).1, .slice ua un uc)) := by
              show KVn fs (i + 1) = _
              rw [KVn, HFI.out]
              simp [hf]
            subst hf
            go_wp2
            exact ⟨⟨i + 1, hlt, congrArg (Value.int .i64) (by omega), HRS.out, by rw [HNX.out]; exact HKS.out.set1 _⟩, by show L - ((i : Int) + 1).toNat < L - ((i : Int)).toNat; omega⟩
        · have HBAD : Hid (knw (lvl fs) = none) := knw_fall (i := k) (by have := HL.out.1; omega) (fun j hj => hrs j (by omega)) (by rw [hf', hif]; exact hff) H01.out
          have gff : decide (f' < f) = false := by simp; omega
          clear hi0 hrs hi hk hf' hif hc
          refine Go.Pin.wp_region_hcls (fun y => Below V.heap.size V y) 14 (by rfl) (by kernel_rfl) ((Below.refl _ _).drew) ?_
          intro Sq fq hNq hRq hSq
          have y0 := fun x => (HVC.out _ (hRq x)).1
          have y4 := fun x => HZ.out _ (hRq x)
          have st0 : Below V.heap.size V V.drew := (Below.refl _ _).drew
          refine Go.Pin.takeQ 0 (by simp only [List.getElem?_toArray, List.getElem?_cons_zero, List.getElem?_cons_succ]; exact rfl) (by kernel_rfl) (by kernel_rfl) (by kernel_rfl) (by rfl) (fun _ _ d _ _ h => by cases d <;> exact h) (st0) (hSq).out (by kernel_rfl) ?_
          intro Kq hKq
          go_big_quiet_op
          go_big_quiet_on
          refine Go.Pin.takeQ 1 (by simp only [List.getElem?_toArray, List.getElem?_cons_zero, List.getElem?_cons_succ]; exact rfl) (by kernel_rfl) (by kernel_rfl) (by kernel_rfl) (by rfl) (fun _ _ d _ _ h => by cases d <;> exact h) (st0) (hSq).out (by kernel_rfl) ?_
          intro Kq hKq
          go_big_quiet_op
          go_big_quiet_on
          refine Go.Pin.takeQ 2 (by simp only [List.getElem?_toArray, List.getElem?_cons_zero, List.getElem?_cons_succ]; exact rfl) (by kernel_rfl) (by kernel_rfl) (by kernel_rfl) (by rfl) (fun _ _ d _ _ h => by cases d <;> exact h) (st0) (hSq).out (by kernel_rfl) ?_
          intro Kq hKq
          go_big_quiet_op
          go_big_quiet_on
          refine Go.Pin.takeQ 3 (by simp only [List.getElem?_toArray, List.getElem?_cons_zero, List.getElem?_cons_succ]; exact rfl) (by kernel_rfl) (by kernel_rfl) (by kernel_rfl) (by rfl) (fun _ _ d _ _ h => by cases d <;> exact h) (st0) (hSq).out (by kernel_rfl) ?_
          intro Kq hKq
          go_big_quiet_op
          go_big_quiet_on
          refine Go.Pin.takeQ 4 (by simp only [List.getElem?_toArray, List.getElem?_cons_zero, List.getElem?_cons_succ]; exact rfl) (by kernel_rfl) (by kernel_rfl) (by kernel_rfl) (by rfl) (fun _ _ d _ _ h => by cases d <;> exact h) (st0) (hSq).out (by kernel_rfl) ?_
          intro Kq hKq
          go_big_quiet_op
          go_big_quiet_on
          refine Go.Pin.takeQ 5 (by simp only [List.getElem?_toArray, List.getElem?_cons_zero, List.getElem?_cons_succ]; exact rfl) (by kernel_rfl) (by kernel_rfl) (by kernel_rfl) (by rfl) (fun _ _ d _ _ h => by cases d <;> exact h) (st0) (hSq).out (by kernel_rfl) ?_
          intro Kq hKq
          go_big_quiet_op
          go_big_quiet_on
          refine Go.Pin.takeQ 6 (by simp only [List.getElem?_toArray, List.getElem?_cons_zero, List.getElem?_cons_succ]; exact rfl) (by kernel_rfl) (by kernel_rfl) (by kernel_rfl) (by rfl) (fun _ _ d _ _ h => by cases d <;> exact h) (st0) (hSq).out (by kernel_rfl) ?_
          intro Kq hKq
          go_big_quiet_op
          go_big_quiet_on
          refine Go.Pin.takeQ 7 (by simp only [List.getElem?_toArray, List.getElem?_cons_zero, List.getElem?_cons_succ]; exact rfl) (by kernel_rfl) (by kernel_rfl) (by kernel_rfl) (by rfl) (fun _ _ d _ _ h => by cases d <;> exact h) (st0) (hSq).out (by kernel_rfl) ?_
          intro Kq hKq
          go_big_quiet_op
          go_big_quiet_on
          refine Go.Pin.takeQ 8 (by simp only [List.getElem?_toArray, List.getElem?_cons_zero, List.getElem?_cons_succ]; exact rfl) (by kernel_rfl) (by kernel_rfl) (by kernel_rfl) (by rfl) (fun _ _ d _ _ h => by cases d <;> exact h) (st0) (hSq).out (by kernel_rfl) ?_
          intro Kq hKq
          go_big_quiet_op
          go_big_quiet_on
          refine Go.Pin.takeQ 9 (by simp only [List.getElem?_toArray, List.getElem?_cons_zero, List.getElem?_cons_succ]; exact rfl) (by kernel_rfl) (by kernel_rfl) (by kernel_rfl) (by rfl) (fun _ _ d _ _ h => by cases d <;> exact h) (st0) (hSq).out (by kernel_rfl) ?_
          intro Kq hKq
          go_big_quiet_op
          go_big_quiet_on
          refine Go.Pin.takeQ 10 (by simp only [List.getElem?_toArray, List.getElem?_cons_zero, List.getElem?_cons_succ]; exact rfl) (by kernel_rfl) (by kernel_rfl) (by kernel_rfl) (by rfl) (fun _ _ d _ _ h => by cases d <;> exact h) (st0) (hSq).out (by kernel_rfl) ?_
          intro Kq hKq
          go_big_quiet_op
          go_big_quiet_on
          refine Go.Pin.takeQ 11 (by simp only [List.getElem?_toArray, List.getElem?_cons_zero, List.getElem?_cons_succ]; exact rfl) (by kernel_rfl) (by kernel_rfl) (by kernel_rfl) (by rfl) (fun _ _ d _ _ h => by cases d <;> exact h) (st0) (hSq).out (by kernel_rfl) ?_
          intro Kq hKq
          go_big_quiet_op
          go_big_quiet_on
          refine Go.Pin.takeQ 12 (by simp only [List.getElem?_toArray, List.getElem?_cons_zero, List.getElem?_cons_succ]; exact rfl) (by kernel_rfl) (by kernel_rfl) (by kernel_rfl) (by rfl) (fun _ _ d _ _ h => by cases d <;> exact h) (st0) (hSq).out (by kernel_rfl) ?_
          intro Kq hKq
          go_big_quiet_op
          go_big_quiet_on
          have hVd : Below n w V.drew := (HVC.out _ st0).2.2.old
          have CN := must_no V.drew (HE.out _ hVd)
          have HVD : Hid (Below n w V.drew) := hVd
          refine Go.Pin.readyQ 13 (by simp only [List.getElem?_toArray, List.getElem?_cons_zero, List.getElem?_cons_succ]; exact rfl) (by kernel_rfl) (by kernel_rfl) ?_
          intro K hK
          refine wpCallP rfl (args := #[.bool false]) (by simp only [List.map_toArray, List.map_cons, List.map_nil]; rfl) (fun _ => rfl) (CN.mono (R' := fun e w' => e = PN ea ∧ w' = V.drew) (fun e w' h => h)) ?_
          rintro w' rfl
          simp only [Exit.then, Exit.inBlock]
          refine ⟨rfl, by rw [hn]; exact HVD.out, ?_⟩
          rw [HBAD.out]
    · have b1 : ¬ (i : Int) < (L : Int) := by omega
      have hiL : i = L := by omega
      obtain ⟨b0, b1', hkn⟩ := knw_rise (fs := fs) (by have := HL.out.1; omega) (fun j hj => hrs j (by have := HL.out.1; omega)) H01.out
      have HKN : Hid (knw (lvl fs) = some (b0, b1') ∧ i = fs.length) := ⟨hkn, by have := HL.out.1; omega⟩
      obtain ⟨⟨x0, y0, z0, e0⟩, ⟨x1, y1, z1, e1⟩⟩ := KVn_sl (fs := fs) HSL.out i (by have := HL.out.1; omega)
      have hrow := hk.row
      have hlt := hk.lt
      have hold := hk.old
      rw [e0, e1] at hrow
      have HE01 : Hid ((KVn fs i).1 = .slice x0 y0 z0 ∧ (KVn fs i).2 = .slice x1 y1 z1) := ⟨e0, e1⟩
      have HROW : Hid (wr.heap[n]? = some (.cells #[.slice x0 y0 z0, .slice x1 y1 z1] 26) ∧ Below n w wr) := ⟨hrow, hold⟩
      have i2 : (Tryd.prog.info? 26).map (·.size) = some 2 := by kernel_rfl
      have HI2 : Hid ((Tryd.prog.info? 26).map (·.size) = some (#[Value.slice x0 y0 z0, Value.slice x1 y1 z1] : Array Value).size ∧ (#[Value.slice x0 y0 z0, Value.slice x1 y1 z1] : Array Value).all (·.oneCell') = true) := ⟨i2, by simp [Value.oneCell']⟩
      clear hkn hrs hk hi hiL e0 e1 hrow hold hlt i2
      go_wp2_with (first
        | (with_reducible refine at_list ?_; refine wpList_load_row rfl 26 (.tmp 2) rfl n rfl 26 #[.slice x0 y0 z0, .slice x1 y1 z1] (0, 0) _ HROW.out.1 Tryd.underlying26 rfl HI2.out.1 ?_)
        | (with_reducible refine at_list ?_; refine wpList_store_row rfl 26 (.tmp 2) (.tmp 36) rfl n #[.slice x0 y0 z0, .slice x1 y1 z1] rfl rfl 26 #[.slice x0 y0 z0, .slice x1 y1 z1] HROW.out.1 HI2.out.1 rfl HI2.out.2 ?_))
      refine bodyPost_ret (v := .agg #[.slice x0 y0 z0, .slice x1 y1 z1]) ?_ rfl ⟨?_, ?_⟩
      · exact results_cell_row (P := Tryd.prog) (fn := Tryd.f43) (p := 2) (ty := 26) rfl _ _ n 26 _ (0, 0) _ rfl (setRow_heap _ _ _ _ 26 _ HROW.out.1) Tryd.underlying26 rfl HI2.out.1
      · rw [hn]
        exact below_setRow HROW.out.2 _ (Nat.le_refl _) _
      · rw [HKN.out.1]
        show _ = _
        rw [← HKN.out.2, HE01.out.1, HE01.out.2]
end Go.Proofs.YtchnkpgkckadmabDoor
/- a list of patterns of one's own that grows -/
namespace Go.Proofs.YtchnkpgkckadmabDoor
set_option linter.unusedSimpArgs false
set_option linter.unusedVariables false
open Go.ChangeShapes Go.WideShapes Go.ChangeAt Go.RowKit Go.Pin Go.Pat
def FtL (S : Nat → Prop) (w : World) (v : Value) (L : List Ln) : Prop :=
  ∃ a cap, v = .slice a L.length cap ∧ L.length ≤ cap ∧ L.length ≤ 140737488355328 ∧ ∀ j, j < L.length → ∃ b o u, S b ∧ a = some ⟨b, o, none⟩ ∧ w.cell? ⟨b, o + j * 2, none⟩ = some (.int .i64 (L.getD j (0, [])).1) ∧ w.cell? ⟨b, o + j * 2 + 1, none⟩ = some u ∧ FtN S w u (L.getD j (0, [])).2
def FtP (S : Nat → Prop) (w : World) (v0 v1 vl : Value) (p : Pt) : Prop := FtN S w v0 p.b0 ∧ FtN S w v1 p.b1 ∧ FtL S w vl p.ln
section
variable {S T : Nat → Prop} {w w' W : World} {v v0 v1 vl : Value} {L : List Ln} {p : Pt}
theorem FtL.rd (h : FtL S w v L) : RdL w v L := by
  obtain ⟨a, c, e, h1, h2, h3⟩ := h
  refine ⟨a, c, e, h1, h2, fun j hj => ?_⟩
  obtain ⟨b, o, u, _, g1, g2, g3, g4⟩ := h3 j hj
  exact ⟨b, o, u, g1, g2, g3, g4.rd⟩
theorem FtL.mono (h : FtL S w v L) (hs : ∀ b, S b → T b) : FtL T w v L := by
  obtain ⟨a, c, e, h1, h2, h3⟩ := h
  refine ⟨a, c, e, h1, h2, fun j hj => ?_⟩
  obtain ⟨b, o, u, g0, g1, g2, g3, g4⟩ := h3 j hj
  exact ⟨b, o, u, hs b g0, g1, g2, g3, g4.mono hs⟩
theorem FtL.keep (h : FtL S w v L) (hk : ∀ b, S b → w'.heap[b]? = w.heap[b]?) : FtL S w' v L := by
  obtain ⟨a, c, e, h1, h2, h3⟩ := h
  refine ⟨a, c, e, h1, h2, fun j hj => ?_⟩
  obtain ⟨b, o, u, g0, g1, g2, g3, g4⟩ := h3 j hj
  exact ⟨b, o, u, g0, g1, by rw [World.cell?_of_block (a := ⟨b, o + j * 2, none⟩) (hk b g0)]; exact g2, by rw [World.cell?_of_block (a := ⟨b, o + j * 2 + 1, none⟩) (hk b g0)]; exact g3, g4.keep hk⟩
theorem FtP.mono (h : FtP S w v0 v1 vl p) (hs : ∀ b, S b → T b) : FtP T w v0 v1 vl p := ⟨h.1.mono hs, h.2.1.mono hs, h.2.2.mono hs⟩
theorem FtP.keep (h : FtP S w v0 v1 vl p) (hk : ∀ b, S b → w'.heap[b]? = w.heap[b]?) : FtP S w' v0 v1 vl p := ⟨h.1.keep hk, h.2.1.keep hk, h.2.2.keep hk⟩
theorem FtP.rd (h : FtP S w v0 v1 vl p) : RdP w (.agg #[.string p.nm, v0, v1, vl]) p := ⟨v0, v1, vl, rfl, h.1.rd, h.2.1.rd, h.2.2.rd⟩
theorem FtL.one (h : FtL S w v L) : v.oneCell' = true := by
  obtain ⟨a, c, rfl, _⟩ := h
  rfl
end
/-- a built pattern lies behind its box -/
theorem PS.ftp {gp : Nat} {w0 wr : World} {nm : ByteArray} {v0 v1 vl : Value} {b0 b1 : List Int} {fs : List Lv} (h : PS gp w0 nm v0 v1 vl b0 b1 fs wr) (hn : fs.length ≤ 140737488355328) : FtP (fun b => gp < b ∧ b < wr.heap.size) wr v0 v1 vl ⟨nm, b0, b1, lvl fs⟩ := by
  have hs : ∀ b, Fr gp vl wr b → (gp < b ∧ b < wr.heap.size) := fun b hb => ⟨hb.1, hb.2.1⟩
  refine ⟨h.f0.mono hs, h.f1.mono hs, ?_⟩
  have hl : (lvl fs).length = fs.length := by simp [lvl]
  rcases h.own.2 with ⟨e, e2⟩ | ⟨g, cap', cur, e, hb, hg, h1, h2, h3, h4⟩
  · subst e
    exact ⟨none, 0, by rw [hl, e2], by rw [hl, e2]; exact Nat.le_refl _, by rw [hl]; exact hn, fun j hj => by rw [hl, e2] at hj; omega⟩
  · subst e
    refine ⟨some ⟨g, 0, none⟩, cap', by rw [hl], by rw [hl]; exact h1, by rw [hl]; exact hn, fun j hj => ?_⟩
    rw [hl] at hj
    obtain ⟨a1, a2⟩ := lvc_at fs j hj
    obtain ⟨g', e1, _, k1⟩ := (own_cell h.own).2 _ _ a1
    obtain ⟨g'', e2, _, k2⟩ := (own_cell h.own).2 _ _ a2
    injection e1 with e1
    injection e1 with e1
    injection e2 with e2
    injection e2 with e2
    subst e1 e2
    have hgd : (lvl fs).getD j (0, []) = ((fs.getD j (0, undef, [])).1, (fs.getD j (0, undef, [])).2.2) := by simp [lvl, List.getD, hj]
    have hm : fs.getD j (0, undef, []) ∈ fs := by simp [List.getD, hj]
    rw [hgd]
    exact ⟨g, 0, _, ⟨by omega, (Array.getElem?_eq_some_iff.1 hg).1⟩, rfl, by rw [Nat.zero_add]; exact k1, by rw [Nat.zero_add]; exact k2, (h.ft _ hm).mono hs⟩
/-- a pattern in a list: its values, and what it is -/
structure Pv where
  v0 : Value
  v1 : Value
  vl : Value
  p : Pt
def pvc (ps : List Pv) : List Value := ps.flatMap fun x => [.string x.p.nm, x.v0, x.v1, x.vl]
theorem pvc_length (l : List Pv) : (pvc l).length = l.length * 4 := by
  induction l with
  | nil => rfl
  | cons g r ih => simp [pvc] at ih ⊢; omega
theorem pvc_snoc (l : List Pv) (x : Pv) : pvc (l ++ [x]) = pvc l ++ [.string x.p.nm, x.v0, x.v1, x.vl] := by simp [pvc]
def zPv : Pv := ⟨undef, undef, undef, ⟨⟨#[]⟩, [], [], []⟩⟩
theorem pvc_at (l : List Pv) : ∀ (j : Nat), j < l.length → (pvc l)[j * 4]? = some (.string (l.getD j zPv).p.nm) ∧ (pvc l)[j * 4 + 1]? = some (l.getD j zPv).v0 ∧ (pvc l)[j * 4 + 2]? = some (l.getD j zPv).v1 ∧ (pvc l)[j * 4 + 3]? = some (l.getD j zPv).vl := by
  induction l with
  | nil => intro j hj; simp at hj
  | cons g r ih =>
    intro j hj
    cases j with
    | zero => simp [pvc]
    | succ j =>
      have := ih j (by simpa using hj)
      have e : pvc (g :: r) = .string g.p.nm :: g.v0 :: g.v1 :: g.vl :: pvc r := by simp [pvc]
      rw [e, show (j + 1) * 4 = j * 4 + 1 + 1 + 1 + 1 by omega]
      simpa using this
def So (q : Nat) (vo : Value) (w : World) (b : Nat) : Prop := b < w.heap.size ∧ some b ≠ vo.ownBlock ∧ q ≤ b
structure QS (q : Nat) (W : World) (vo : Value) (ps : List Pv) (wr : World) : Prop where
  old : Below q W wr
  ge : q ≤ wr.heap.size
  own : wr.ownsRow q 29 4 vo ps.length (pvc ps)
  ft : ∀ x ∈ ps, FtP (So q vo wr) wr x.v0 x.v1 x.vl x.p
section
variable {q : Nat} {W wr w' : World} {vo : Value} {ps : List Pv}
theorem QS.below (h : QS q W vo ps wr) (hb : Below wr.heap.size wr w') : QS q W vo ps w' :=
  ⟨h.old.trans (hb.mono h.ge), Nat.le_trans h.ge hb.size, owns_below hb h.own, fun x hx => ((h.ft x hx).keep (fun b hq => hb.block b hq.1)).mono (fun b hq => ⟨Nat.lt_of_lt_of_le hq.1 hb.size, hq.2⟩)⟩
theorem parts_pat : (Tryd.prog.info? 29).map (fun i => (i.zero, i.size, i.bytes)) = some (some (.agg #[.string ⟨#[]⟩, .slice none 0 0, .slice none 0 0, .slice none 0 0]), 4, 88) := by kernel_rfl
theorem QS.app (h : QS q W vo ps wr) (hn : ps.length ≤ 1000000) {a : Nat} (x : Pv) (hf : FtP (So q vo wr) wr x.v0 x.v1 x.vl x.p) (hc : wr.heap[a]? = some (.cells #[.string x.p.nm, x.v0, x.v1, x.vl] 29)) :
    ∀ ty, ∃ v' w', (Builtin.append_ #[24, 24] ty #[vo, .slice (some ⟨a, 0, none⟩) 1 1]).run Tryd.prog wr = .ok v' w' ∧ QS q W v' (ps ++ [x]) w' := fun ty => by
  obtain ⟨v', w', hr, h2, h3, h4⟩ := own_app Tryd.underlying24 parts_pat rfl (by decide) h.own (news := [.string x.p.nm, x.v0, x.v1, x.vl]) hc rfl (fun y hy => by
    simp at hy
    rcases hy with rfl | rfl | rfl | rfl
    · rfl
    · exact hf.1.one
    · exact hf.2.1.one
    · exact hf.2.2.one) (by omega) (by omega) h.ge ty
  have hS : ∀ b, So q vo wr b → So q v' w' b := fun b hb => ⟨Nat.lt_of_lt_of_le hb.1 h3.size, fun e => by
    rcases h4 with h4 | h4
    · rw [h4] at e; exact hb.2.1 e
    · rw [h4] at e; injection e with e; have := hb.1; omega, hb.2.2⟩
  have hk : ∀ b, So q vo wr b → w'.heap[b]? = wr.heap[b]? := fun b hb => h3.block b hb.1 hb.2.1
  refine ⟨v', w', hr, grown_below h.old h.own (Nat.le_refl _) h.ge h3, Nat.le_trans h.ge h3.size, ?_, fun y hy => ?_⟩
  · rw [pvc_snoc, List.length_append]; exact h2
  · rcases List.mem_append.1 hy with hy | hy
    · exact ((h.ft y hy).keep hk).mono hS
    · obtain rfl : y = x := by simpa using hy
      exact (hf.keep hk).mono hS
theorem qs_start (W : World) : QS W.heap.size W (.slice none 0 0) [] W := ⟨Below.refl _ _, Nat.le_refl _, own_nil0 _ _ _ _, fun x hx => by simp at hx⟩
/-- new memory behind the list lies in free blocks -/
theorem QS.new (h : QS q W vo ps wr) {w1 : World} {g : Nat} (hg : wr.heap.size ≤ g) {v0 v1 vl : Value} {p : Pt} (hf : FtP (fun b => g < b ∧ b < w1.heap.size) w1 v0 v1 vl p) : FtP (So q vo w1) w1 v0 v1 vl p :=
  hf.mono fun b hb => ⟨hb.2, fun e => by have := (h.own.lt b e.symm).2; omega, by have := h.ge; omega⟩
end
/-- patterns that are read, in blocks of S -/
def FtQ (S : Nat → Prop) (w : World) (v : Value) (Ps : List Pt) : Prop :=
  ∃ a cap, v = .slice a Ps.length cap ∧ ∀ j, j < Ps.length → ∃ b o v0 v1 vl, S b ∧ a = some ⟨b, o, none⟩ ∧ w.cell? ⟨b, o + j * 4, none⟩ = some (.string (Ps.getD j ⟨⟨#[]⟩, [], [], []⟩).nm) ∧ w.cell? ⟨b, o + j * 4 + 1, none⟩ = some v0 ∧ w.cell? ⟨b, o + j * 4 + 2, none⟩ = some v1 ∧ w.cell? ⟨b, o + j * 4 + 3, none⟩ = some vl ∧ FtP S w v0 v1 vl (Ps.getD j ⟨⟨#[]⟩, [], [], []⟩)
theorem FtQ.keep {S : Nat → Prop} {w W : World} {v : Value} {Ps : List Pt} (h : FtQ S w v Ps) (hk : ∀ b, S b → W.heap[b]? = w.heap[b]?) : FtQ S W v Ps := by
  obtain ⟨a, c, e, h3⟩ := h
  refine ⟨a, c, e, fun j hj => ?_⟩
  obtain ⟨b, o, v0, v1, vl, g0, g1, g2, g3, g4, g5, g6⟩ := h3 j hj
  have hc : ∀ k u, w.cell? ⟨b, k, none⟩ = some u → W.cell? ⟨b, k, none⟩ = some u := fun k u hu => by rw [World.cell?_of_block (a := ⟨b, k, none⟩) (hk b g0)]; exact hu
  exact ⟨b, o, v0, v1, vl, g0, g1, hc _ _ g2, hc _ _ g3, hc _ _ g4, hc _ _ g5, g6.keep hk⟩
theorem FtQ.mono {S T : Nat → Prop} {w : World} {v : Value} {Ps : List Pt} (h : FtQ S w v Ps) (hs : ∀ b, S b → T b) : FtQ T w v Ps := by
  obtain ⟨a, c, e, h3⟩ := h
  refine ⟨a, c, e, fun j hj => ?_⟩
  obtain ⟨b, o, v0, v1, vl, g0, g1, g2, g3, g4, g5, g6⟩ := h3 j hj
  exact ⟨b, o, v0, v1, vl, hs b g0, g1, g2, g3, g4, g5, g6.mono hs⟩
/-- patterns that lie behind a place -/
def RdQ (q : Nat) (w : World) (v : Value) (Ps : List Pt) : Prop := FtQ (fun b => q ≤ b ∧ b < w.heap.size) w v Ps
theorem RdQ.below {q : Nat} {w W : World} {v : Value} {Ps : List Pt} (h : RdQ q w v Ps) (hb : Below w.heap.size w W) : RdQ q W v Ps :=
  (FtQ.keep h (fun b hq => hb.block b hq.2)).mono fun b hq => ⟨hq.1, Nat.lt_of_lt_of_le hq.2 hb.size⟩
theorem RdQ.mono {q p : Nat} {w : World} {v : Value} {Ps : List Pt} (h : RdQ q w v Ps) (hp : p ≤ q) : RdQ p w v Ps := FtQ.mono h fun b hq => ⟨Nat.le_trans hp hq.1, hq.2⟩
theorem QS.rd {q : Nat} {W wr : World} {vo : Value} {ps : List Pv} (h : QS q W vo ps wr) : RdQ q wr vo (ps.map Pv.p) := by
  obtain ⟨a, cap, rfl⟩ := own_slice' h.own
  refine ⟨a, cap, by rw [List.length_map], fun j hj => ?_⟩
  rw [List.length_map] at hj
  obtain ⟨a0, a1, a2, a3⟩ := pvc_at ps j hj
  obtain ⟨g, e0, hg0, k0⟩ := (own_cell h.own).2 _ _ a0
  obtain ⟨g1, e1, _, k1⟩ := (own_cell h.own).2 _ _ a1
  obtain ⟨g2, e2, _, k2⟩ := (own_cell h.own).2 _ _ a2
  obtain ⟨g3, e3, _, k3⟩ := (own_cell h.own).2 _ _ a3
  subst e0
  injection e1 with e1
  injection e1 with e1
  injection e2 with e2
  injection e2 with e2
  injection e3 with e3
  injection e3 with e3
  subst e1 e2 e3
  have hm : ps.getD j zPv ∈ ps := by simp [List.getD, hj]
  have hgd : (ps.map Pv.p).getD j ⟨⟨#[]⟩, [], [], []⟩ = (ps.getD j zPv).p := by simp [List.getD, hj]
  rw [hgd]
  exact ⟨g, 0, _, _, _, ⟨hg0, World.block_lt_of_cell? wr _ k0⟩, rfl, by rw [Nat.zero_add]; exact k0, by rw [Nat.zero_add]; exact k1, by rw [Nat.zero_add]; exact k2, by rw [Nat.zero_add]; exact k3, (h.ft _ hm).mono fun b hb => ⟨hb.2.2, hb.1⟩⟩
end Go.Proofs.YtchnkpgkckadmabDoor
