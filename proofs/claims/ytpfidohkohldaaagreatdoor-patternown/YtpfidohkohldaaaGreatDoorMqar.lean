import Derived.Test.YtpfidohkohldaaaGreatDoorMqaq
namespace Go.Proofs.YtpfidohkohldaaaGreatDoor
set_option linter.unusedSimpArgs false
set_option linter.unusedVariables false
set_option maxRecDepth 100000
open Go.ChangeShapes Go.WideShapes Go.ChangeAt Go.RowKit Go.Pin Go.Pat Go.Deep
theorem wpCallP {P : Program} {o : Oper} {a : Act} {w : World} {K : Act → World → Prop} {Q : Exit → Act → World → Prop} {f : Nat} {xs : Array Operand} {ts : Array TypeId} {args : Array Value} {ch : List PanicEntry} {R : World → Prop}
    (ho : o.op = .call { callee := .value (.func f), args := xs, argTypes := ts }) (ha : xs.map a.eval = args) (hen : ∀ w, (callFunc f args).run P w = .ok (.enter f args) w) (hc : Calls P f args w fun e w' => e = .panicked ch ∧ R w') (h : ∀ w', R w' → Q (.panic ch) a w') : Oper.wp P o a w K Q := by
  unfold Oper.wp execOp
  simp only [ho]
  go_simp
  refine hc.mono ?_
  rintro e w' ⟨rfl, hr⟩
  exact h w' hr
abbrev lvd : Lv := (0, .slice none 0 0, [])
/-- what is known, by the first rows -/
def KVn (fs : List Lv) : Nat → Value × Value
  | 0 => (.slice none 0 0, .slice none 0 0)
  | i + 1 => if (fs.getD i lvd).1 = 0 then ((fs.getD i lvd).2.1, (KVn fs i).2) else ((KVn fs i).1, (fs.getD i lvd).2.1)
def Lv01 (fs : List Lv) : Prop := ∀ f ∈ fs, f.1 = 0 ∨ f.1 = 1
theorem knw_fall {fs : List Lv} {i : Nat} (hi : i + 1 < fs.length) (hr : ∀ j, j + 1 < i + 1 → (fs.getD j lvd).1 < (fs.getD (j + 1) lvd).1) (h : ¬ (fs.getD i lvd).1 < (fs.getD (i + 1) lvd).1) (h01 : Lv01 fs) : knw (lvl fs) = none := by
  match fs, hi, hr, h, h01 with
  | [x, y], hi, hr, h, _ =>
    obtain rfl : i = 0 := by simp at hi; omega
    have h' : ¬ x.1 < y.1 := h
    show (if x.1 < y.1 then _ else _) = none
    rw [if_neg h']
  | x :: y :: z :: r, _, _, _, _ => rfl
theorem knw_rise {fs : List Lv} (h0 : 0 < fs.length) (hr : ∀ j, j + 1 < fs.length → (fs.getD j lvd).1 < (fs.getD (j + 1) lvd).1) (h01 : Lv01 fs) : ∃ b0 b1, knw (lvl fs) = some (b0, b1) := by
  match fs, h0, hr, h01 with
  | [x], _, _, _ =>
    have : knw (lvl [x]) = if x.1 = 0 then some (x.2.2, []) else some ([], x.2.2) := rfl
    rw [this]
    split
    · exact ⟨_, _, rfl⟩
    · exact ⟨_, _, rfl⟩
  | [x, y], _, hr, _ =>
    have h' : x.1 < y.1 := hr 0 (by simp)
    refine ⟨x.2.2, y.2.2, ?_⟩
    show (if x.1 < y.1 then _ else _) = _
    rw [if_pos h']
  | x :: y :: z :: r, _, hr, h01 =>
    have h1 : x.1 < y.1 := hr 0 (by simp)
    have h2 : y.1 < z.1 := hr 1 (by simp)
    have k1 := h01 x (by simp)
    have k2 := h01 y (by simp)
    have k3 := h01 z (by simp)
    omega
/-- what is known is what the rows say -/
theorem knw_kv {S : Nat → Prop} {w : World} {fs : List Lv} {b0 b1 : List Int} (h : knw (lvl fs) = some (b0, b1)) (hf : ∀ f ∈ fs, FtN S w f.2.1 f.2.2) (h01 : Lv01 fs) : FtN S w (KVn fs fs.length).1 b0 ∧ FtN S w (KVn fs fs.length).2 b1 := by
  match fs, h, hf, h01 with
  | [], h, _, _ => simp [lvl, knw] at h
  | [x], h, hf, h01 =>
    have e : knw (lvl [x]) = if x.1 = 0 then some (x.2.2, []) else some ([], x.2.2) := rfl
    rw [e] at h
    have hk : KVn [x] [x].length = if x.1 = 0 then (x.2.1, .slice none 0 0) else (.slice none 0 0, x.2.1) := rfl
    rw [hk]
    split at h
    · rename_i h0
      injection h with h
      injection h with h1 h2
      subst h1 h2
      rw [if_pos h0]
      exact ⟨hf x (by simp), ft_nil _ _⟩
    · rename_i h0
      injection h with h
      injection h with h1 h2
      subst h1 h2
      rw [if_neg h0]
      exact ⟨ft_nil _ _, hf x (by simp)⟩
  | [x, y], h, hf, h01 =>
    have e : knw (lvl [x, y]) = if x.1 < y.1 then some (x.2.2, y.2.2) else none := rfl
    rw [e] at h
    have hk : KVn [x, y] [x, y].length = if y.1 = 0 then (y.2.1, (KVn [x, y] 1).2) else ((KVn [x, y] 1).1, y.2.1) := rfl
    have hk1 : KVn [x, y] 1 = if x.1 = 0 then (x.2.1, .slice none 0 0) else (.slice none 0 0, x.2.1) := rfl
    split at h
    · rename_i hlt
      injection h with h
      injection h with h1 h2
      subst h1 h2
      have k1 := h01 x (by simp)
      have k2 := h01 y (by simp)
      rw [hk, if_neg (by omega), hk1, if_pos (by omega)]
      exact ⟨hf x (by simp), hf y (by simp)⟩
    · simp at h
  | _ :: _ :: _ :: _, h, _, _ => simp [lvl, knw] at h
theorem KVn_sl {fs : List Lv} (hf : ∀ f ∈ fs, ∃ a n c, f.2.1 = .slice a n c) : ∀ i, i ≤ fs.length → (∃ a n c, (KVn fs i).1 = .slice a n c) ∧ ∃ a n c, (KVn fs i).2 = .slice a n c
  | 0, _ => ⟨⟨_, _, _, rfl⟩, _, _, _, rfl⟩
  | i + 1, h => by
    have ih := KVn_sl hf i (by omega)
    have hm : fs.getD i lvd ∈ fs := by
      rw [show fs.getD i lvd = fs[i] by simp [List.getD, show i < fs.length by omega]]
      exact List.getElem_mem _
    unfold KVn
    split
    · exact ⟨hf _ hm, ih.2⟩
    · exact ⟨ih.1, hf _ hm⟩
def KnP (ea : Int → Addr) (fs : List Lv) (w : World) (e : Ending) (w' : World) : Prop :=
  Below w.heap.size w w' ∧ match knw (lvl fs) with
    | none => e = PN ea
    | some _ => e = .returned (.agg #[(KVn fs fs.length).1, (KVn fs fs.length).2])
/-- what is known so far, in its box -/
structure KS (n : Nat) (w : World) (k : Value × Value) (wr : World) : Prop where
  old : Below n w wr
  lt : n < wr.heap.size
  row : wr.heap[n]? = some (.cells #[k.1, k.2] 23)
section
variable {n : Nat} {w wr w' : World} {k : Value × Value}
theorem KS.below (h : KS n w k wr) (hb : Below wr.heap.size wr w') : KS n w k w' :=
  ⟨h.old.trans (hb.mono (by have := h.lt; omega)), Nat.lt_of_lt_of_le h.lt hb.size, (hb.block _ h.lt).trans h.row⟩
theorem KS.c (h : KS n w k wr) (i : Nat) (hi : i < 2) : wr.cell? ⟨n, i, none⟩ = some (if i = 0 then k.1 else k.2) := by
  rw [cell_of_row _ _ _ _ _ _ h.row]
  rcases (by omega : i = 0 ∨ i = 1) with rfl | rfl <;> rfl
theorem KS.f (h : KS n w k wr) (i : Nat) : wr.frozen? ⟨n, i, none⟩ = false := frozen_of_row _ _ _ _ _ h.row
theorem KS.set0 (h : KS n w k wr) (u : Value) : KS n w (u, k.2) (wr.setCell ⟨n, 0, none⟩ u) := by
  refine ⟨h.old.setCell (Nat.le_refl _) _, by simpa using h.lt, ?_⟩
  rw [Go.heap_setCell_same _ _ _ _ _ _ h.row]
  rfl
theorem KS.set1 (h : KS n w k wr) (u : Value) : KS n w (k.1, u) (wr.setCell ⟨n, 1, none⟩ u) := by
  refine ⟨h.old.setCell (Nat.le_refl _) _, by simpa using h.lt, ?_⟩
  rw [Go.heap_setCell_same _ _ _ _ _ _ h.row]
  rfl
end
set_option maxHeartbeats 4000000 in
theorem knownOf_any {ea : Int → Addr} (q : Nat) (vl : Value) (fs : List Lv) (w : World) (hE : Errs ea w) (hown : w.ownsRow q 43 2 vl fs.length (lvc fs)) (h01 : Lv01 fs) (hsl : ∀ f ∈ fs, ∃ a n c, f.2.1 = .slice a n c) (hn4 : fs.length ≤ 4096) :
    Calls Tryz.prog 44 #[vl] w (KnP ea fs w) := by
  obtain ⟨a, cap, rfl⟩ := own_slice' hown
  obtain ⟨n, hn⟩ : ∃ n, w.heap.size = n := ⟨_, rfl⟩
  obtain ⟨L, hL⟩ : ∃ L, fs.length = L := ⟨_, rfl⟩
  have hcell : ∀ j, j < L → ∃ g, a = some ⟨g, 0, none⟩ ∧ ∀ y, Below n w y → y.cell? ⟨g, j * 2, none⟩ = some (.int .i64 (fs.getD j lvd).1) ∧ y.cell? ⟨g, j * 2 + 1, none⟩ = some (fs.getD j lvd).2.1 := fun j hj => by
    obtain ⟨k1, k2⟩ := lvc_at fs j (by omega)
    obtain ⟨g, e1, _, c1⟩ := (own_cell hown).2 _ _ k1
    obtain ⟨g', e2, _, c2⟩ := (own_cell hown).2 _ _ k2
    rw [e1] at e2
    injection e2 with e2
    injection e2 with e2
    subst e2
    have hj' : j < fs.length := by omega
    have ed : fs.getD j (0, undef, []) = fs.getD j lvd := by simp [List.getD, hj']
    rw [ed] at c1 c2
    refine ⟨g, e1, fun y hy => ⟨?_, ?_⟩⟩
    · exact cell_below (by rw [hn]; exact hy) c1
    · exact cell_below (by rw [hn]; exact hy) c2
  rw [hL]
  have HC : Hid (∀ j, j < L → _) := hcell
  have HL : Hid (fs.length = L ∧ L ≤ 4096 ∧ w.heap.size = n) := ⟨hL, by omega, hn⟩
  have H01 : Hid (Lv01 fs) := h01
  have HSL : Hid (∀ f ∈ fs, ∃ a n c, f.2.1 = .slice a n c) := hsl
  have HE : Hid (∀ y, Below n w y → Errs ea y) := fun y hy => hE.below (by rw [hn]; exact hy)
  have bL : (L : Int) ≤ 4096 := by omega
  by_cases h0 : L = 0
  · have HR : Hid (knw (lvl fs) = none) := by
      show knw (lvl fs) = none
      rw [List.length_eq_zero_iff.1 (hL.trans h0)]
      rfl
    have g0 : ¬ (0 : Int) < (L : Int) := by omega
    have g0' : ¬ 0 < L := by omega
    obtain ⟨V, hV⟩ : ∃ V, w.alloc (.cells #[.slice none 0 0, .slice none 0 0] 23) = V := ⟨_, rfl⟩
    have hVb : Below n w V := by rw [← hV, ← hn]; exact (Below.refl _ _).alloc (Nat.le_refl _) _
    have CM := must_no V (HE.out V hVb)
    have HVB : Hid (Below n w V) := hVb
    clear h0 hcell hL h01 hsl hE hown hn4 hVb
    go_enter Tryz.func44, Tryz.ntmps44
    go_wp2_with (go_at_call 45; refine CM.mono ?_; rintro e w1 ⟨rfl, rfl⟩)
    refine ⟨rfl, by rw [hn]; exact HVB.out, ?_⟩
    rw [HR.out]
  have g0 : (0 : Int) < (L : Int) := by omega
  have g0' : 0 < L := by omega
  have hks : KS n w (KVn fs 0) (w.alloc (.cells #[.slice none 0 0, .slice none 0 0] 23)) := by
    rw [← hn]
    exact ⟨(Below.refl _ _).alloc (Nat.le_refl _) _, by simp [size_alloc], heap_alloc_new _ _⟩
  have HK0 : Hid _ := hks
  have CM := fun y => must_yes y
  clear h0 hcell hL h01 hsl hE hown hn4 hks
  go_enter Tryz.func44, Tryz.ntmps44
  go_wp2_with (go_at_call 45; refine (CM _).mono ?_; rintro e w1 ⟨rfl, rfl⟩)
  go_loopw [11] (fun v11 wr => ∃ i : Nat, i ≤ L ∧ v11 = .int .i64 i ∧ (∀ j, j + 1 < i → (fs.getD j lvd).1 < (fs.getD (j + 1) lvd).1) ∧ KS n w (KVn fs i) wr) (fun v _ => L - (intOf v).toNat)
  case atStart => exact ⟨0, Nat.zero_le _, rfl, fun j hj => by omega, HK0.out⟩
  case round =>
    obtain ⟨i, hi, rfl, hrs, hk⟩ := hrel
    have HK : Hid (KS n w (KVn fs i) wr) := hk
    by_cases hlt : i < L
    · have b1 : (i : Int) < (L : Int) := by omega
      obtain ⟨g, rfl, hc⟩ := HC.out i hlt
      have hil : i < fs.length := by have := HL.out.1; omega
      have hm : fs.getD i lvd ∈ fs := by
        rw [show fs.getD i lvd = fs[i] by simp [List.getD, hil]]
        exact List.getElem_mem _
      obtain ⟨ua, un, uc, hu⟩ := HSL.out _ hm
      have hf01 := H01.out _ hm
      obtain ⟨f, hf⟩ : ∃ f, (fs.getD i lvd).1 = f := ⟨_, rfl⟩
      have x0 := (hc wr hk.old).1
      have x1 := (hc wr hk.old).2
      rw [hf] at x0 hf01
      rw [hu] at x1
      have HF01 : Hid (f = 0 ∨ f = 1) := hf01
      have HFI : Hid (fs.getD i lvd = (f, .slice ua un uc, (fs.getD i lvd).2.2)) := by
        show fs.getD i lvd = _
        rw [← hf, ← hu]
      obtain ⟨m, hm2⟩ : ∃ m, wr.heap.size = m := ⟨_, rfl⟩
      obtain ⟨V, hV⟩ : ∃ V, wr.alloc (.cells #[.int .i64 f, .slice ua un uc] 43) = V := ⟨_, rfl⟩
      have hal : Below wr.heap.size wr V := by rw [← hV]; exact (Below.refl _ _).alloc (Nat.le_refl _) _
      have hVm : V.heap[m]? = some (.cells #[.int .i64 f, .slice ua un uc] 43) := by rw [← hV, ← hm2]; exact heap_alloc_new _ _
      have HVC : Hid (∀ y, Below V.heap.size V y → y.cell? ⟨m, 0, none⟩ = some (.int .i64 f) ∧ y.cell? ⟨m, 1, none⟩ = some (.slice ua un uc) ∧ KS n w (KVn fs i) y) := fun y hy => by
        have hym := (hy.block m (Array.getElem?_eq_some_iff.1 hVm).1).trans hVm
        refine ⟨?_, ?_, (HK.out.below hal).below hy⟩
        · rw [cell_of_row _ _ _ _ _ _ hym]; rfl
        · rw [cell_of_row _ _ _ _ _ _ hym]; rfl
      clear hk hf hu hm hf01 hc hal hVm hil
      go_upto_region 5 with fail
      try simp only [hm2, hV]
      clear hm2 hV x0 x1
      by_cases hi0 : i = 0
      · have gi : ((i : Int) == 0) = true := by simp [hi0]
        have gi' : decide ((i : Int) = 0) = true := by simp [hi0]
        have gin : (i == 0) = true := by simp [hi0]
        have gin' : decide (i = 0) = true := by simp [hi0]
        have HRS : Hid (∀ j, j + 1 < i + 1 → (fs.getD j lvd).1 < (fs.getD (j + 1) lvd).1) := fun j hj => by omega
        clear hi0 hrs hi
        refine Go.Pin.wp_region_cls (fun y => Below V.heap.size V y) (by kernel_rfl) (by kernel_rfl) ((Below.refl _ _).drew) ?_
        intro Sq fq hNq hRq hSq
        have y0 := fun x => (HVC.out _ (hRq x)).1
        have CF := fun x => must_yes (fq x)
        repeat (go_big_quiet_step (exact (CF _).mono (fun e w' h => ⟨h.1, by rw [h.2]; exact ⟨_, rfl⟩⟩)))
        refine wpQuiet_nil ?_
        intro _ hw'
        obtain ⟨xq, hw''⟩ := hw'
        subst hw''
        have HYq := hRq xq
        generalize fq xq = y at HYq ⊢
        have c0 := (HVC.out y HYq).1
        have c1 := (HVC.out y HYq).2.1
        have hks := (HVC.out y HYq).2.2
        have d0 := hks.c 0 (by decide)
        have d1 := hks.c 1 (by decide)
        have f0 := hks.f 0
        have f1 := hks.f 1
        have HKS : Hid (KS n w (KVn fs i) y) := hks
        clear hRq hSq hNq xq fq Sq y0 CF HYq hks
        rcases HF01.out with hf | hf
        · have HNX : Hid (KVn fs (i + 1) = (.slice ua un uc, (KVn fs i).2)) := by
            show KVn fs (i + 1) = _
            rw [KVn, HFI.out]
            simp [hf]
          subst hf
          go_wp2
          exact ⟨⟨i + 1, hlt, congrArg (Value.int .i64) (by omega), HRS.out, by rw [HNX.out]; exact HKS.out.set0 _⟩, by show L - ((i : Int) + 1).toNat < L - ((i : Int)).toNat; omega⟩
        · have HNX : Hid (KVn fs (i + 1) = ((KVn fs i).1, .slice ua un uc)) := by
            show KVn fs (i + 1) = _
            rw [KVn, HFI.out]
            simp [hf]
          subst hf
          go_wp2
          exact ⟨⟨i + 1, hlt, congrArg (Value.int .i64) (by omega), HRS.out, by rw [HNX.out]; exact HKS.out.set1 _⟩, by show L - ((i : Int) + 1).toNat < L - ((i : Int)).toNat; omega⟩
      · obtain ⟨k, hk⟩ : ∃ k, i = k + 1 := ⟨i - 1, by omega⟩
        obtain ⟨g', e, hc⟩ := HC.out k (by omega)
        injection e with e
        injection e with e
        subst e
        obtain ⟨f', hf'⟩ : ∃ f', (fs.getD k lvd).1 = f' := ⟨_, rfl⟩
        have HZ : Hid (∀ y, Below V.heap.size V y → y.cell? ⟨g, k * 2, none⟩ = some (.int .i64 f')) := fun y hy => by
          rw [← hf']
          exact (hc y (HVC.out y hy).2.2.old).1
        have gi : ((i : Int) == 0) = false := by simp; omega
        have gi' : decide ((i : Int) = 0) = false := by simp; omega
        have gin : (i == 0) = false := by simp; omega
        have gin' : decide (i = 0) = false := by simp; omega
        have bw : IntKind.i64.wrap ((i : Int) - 1) = (k : Int) := by rw [IntWalk.i64_in _ ⟨by omega, by omega⟩]; omega
        have bw' : wrap64 ((i : Int) - 1) = (k : Int) := by rw [IntWalk.wrap64_in _ ⟨by omega, by omega⟩]; omega
        have bkn : (k : Int) < (L : Int) := by omega
        have hif : (fs.getD (k + 1) lvd).1 = f := by rw [← hk, HFI.out]
        by_cases hff : f' < f
        · have HRS : Hid (∀ j, j + 1 < i + 1 → (fs.getD j lvd).1 < (fs.getD (j + 1) lvd).1) := fun j hj => by
            by_cases hjk : j = k
            · rw [hjk, hf', hif]; exact hff
            · exact hrs j (by omega)
          have gff : decide (f' < f) = true := by simp [hff]
          clear hi0 hrs hi hk hf' hif hc
          refine Go.Pin.wp_region_cls (fun y => Below V.heap.size V y) (by kernel_rfl) (by kernel_rfl) ((Below.refl _ _).drew) ?_
          intro Sq fq hNq hRq hSq
          have y0 := fun x => (HVC.out _ (hRq x)).1
          have y4 := fun x => HZ.out _ (hRq x)
          have CF := fun x => must_yes (fq x)
          repeat (go_big_quiet_step (exact (CF _).mono (fun e w' h => ⟨h.1, by rw [h.2]; exact ⟨_, rfl⟩⟩)))
          refine wpQuiet_nil ?_
          intro _ hw'
          obtain ⟨xq, hw''⟩ := hw'
          subst hw''
          have HYq := hRq xq
          generalize fq xq = y at HYq ⊢
          have c0 := (HVC.out y HYq).1
          have c1 := (HVC.out y HYq).2.1
          have hks := (HVC.out y HYq).2.2
          have d0 := hks.c 0 (by decide)
          have d1 := hks.c 1 (by decide)
          have f0 := hks.f 0
          have f1 := hks.f 1
          have HKS : Hid (KS n w (KVn fs i) y) := hks
          clear hRq hSq hNq xq fq Sq y0 y4 CF HYq hks
          rcases HF01.out with hf | hf
          · have HNX : Hid (KVn fs (i + 1) = (.slice ua un uc, (KVn fs i).2)) := by
              show KVn fs (i + 1) = _
              rw [KVn, HFI.out]
              simp [hf]
            subst hf
            go_wp2
            exact ⟨⟨i + 1, hlt, congrArg (Value.int .i64) (by omega), HRS.out, by rw [HNX.out]; exact HKS.out.set0 _⟩, by show L - ((i : Int) + 1).toNat < L - ((i : Int)).toNat; omega⟩
          · have HNX : Hid (KVn fs (i + 1) = ((KVn fs i).1, .slice ua un uc)) := by
              show KVn fs (i + 1) = _
              rw [KVn, HFI.out]
              simp [hf]
            subst hf
            go_wp2
            exact ⟨⟨i + 1, hlt, congrArg (Value.int .i64) (by omega), HRS.out, by rw [HNX.out]; exact HKS.out.set1 _⟩, by show L - ((i : Int) + 1).toNat < L - ((i : Int)).toNat; omega⟩
        · have HBAD : Hid (knw (lvl fs) = none) := knw_fall (i := k) (by have := HL.out.1; omega) (fun j hj => hrs j (by omega)) (by rw [hf', hif]; exact hff) H01.out
          have gff : decide (f' < f) = false := by simp; omega
          clear hi0 hrs hi hk hf' hif hc
          refine Go.Pin.wp_region_hcls (fun y => Below V.heap.size V y) 14 (by rfl) (by kernel_rfl) ((Below.refl _ _).drew) ?_
          intro Sq fq hNq hRq hSq
          have y0 := fun x => (HVC.out _ (hRq x)).1
          have y4 := fun x => HZ.out _ (hRq x)
          have st0 : Below V.heap.size V V.drew := (Below.refl _ _).drew
          refine Go.Pin.takeQ 0 (by simp only [List.getElem?_toArray, List.getElem?_cons_zero, List.getElem?_cons_succ]; exact rfl) (by kernel_rfl) (by kernel_rfl) (by kernel_rfl) (by rfl) (fun _ _ d _ _ h => by cases d <;> exact h) (st0) (hSq).out (by kernel_rfl) ?_
          intro Kq hKq
          go_big_quiet_op
          go_big_quiet_on
          refine Go.Pin.takeQ 1 (by simp only [List.getElem?_toArray, List.getElem?_cons_zero, List.getElem?_cons_succ]; exact rfl) (by kernel_rfl) (by kernel_rfl) (by kernel_rfl) (by rfl) (fun _ _ d _ _ h => by cases d <;> exact h) (st0) (hSq).out (by kernel_rfl) ?_
          intro Kq hKq
          go_big_quiet_op
          go_big_quiet_on
          refine Go.Pin.takeQ 2 (by simp only [List.getElem?_toArray, List.getElem?_cons_zero, List.getElem?_cons_succ]; exact rfl) (by kernel_rfl) (by kernel_rfl) (by kernel_rfl) (by rfl) (fun _ _ d _ _ h => by cases d <;> exact h) (st0) (hSq).out (by kernel_rfl) ?_
          intro Kq hKq
          go_big_quiet_op
          go_big_quiet_on
          refine Go.Pin.takeQ 3 (by simp only [List.getElem?_toArray, List.getElem?_cons_zero, List.getElem?_cons_succ]; exact rfl) (by kernel_rfl) (by kernel_rfl) (by kernel_rfl) (by rfl) (fun _ _ d _ _ h => by cases d <;> exact h) (st0) (hSq).out (by kernel_rfl) ?_
          intro Kq hKq
          go_big_quiet_op
          go_big_quiet_on
          refine Go.Pin.takeQ 4 (by simp only [List.getElem?_toArray, List.getElem?_cons_zero, List.getElem?_cons_succ]; exact rfl) (by kernel_rfl) (by kernel_rfl) (by kernel_rfl) (by rfl) (fun _ _ d _ _ h => by cases d <;> exact h) (st0) (hSq).out (by kernel_rfl) ?_
          intro Kq hKq
          go_big_quiet_op
          go_big_quiet_on
          refine Go.Pin.takeQ 5 (by simp only [List.getElem?_toArray, List.getElem?_cons_zero, List.getElem?_cons_succ]; exact rfl) (by kernel_rfl) (by kernel_rfl) (by kernel_rfl) (by rfl) (fun _ _ d _ _ h => by cases d <;> exact h) (st0) (hSq).out (by kernel_rfl) ?_
          intro Kq hKq
          go_big_quiet_op
          go_big_quiet_on
          refine Go.Pin.takeQ 6 (by simp only [List.getElem?_toArray, List.getElem?_cons_zero, List.getElem?_cons_succ]; exact rfl) (by kernel_rfl) (by kernel_rfl) (by kernel_rfl) (by rfl) (fun _ _ d _ _ h => by cases d <;> exact h) (st0) (hSq).out (by kernel_rfl) ?_
          intro Kq hKq
          go_big_quiet_op
          go_big_quiet_on
          refine Go.Pin.takeQ 7 (by simp only [List.getElem?_toArray, List.getElem?_cons_zero, List.getElem?_cons_succ]; exact rfl) (by kernel_rfl) (by kernel_rfl) (by kernel_rfl) (by rfl) (fun _ _ d _ _ h => by cases d <;> exact h) (st0) (hSq).out (by kernel_rfl) ?_
          intro Kq hKq
          go_big_quiet_op
          go_big_quiet_on
          refine Go.Pin.takeQ 8 (by simp only [List.getElem?_toArray, List.getElem?_cons_zero, List.getElem?_cons_succ]; exact rfl) (by kernel_rfl) (by kernel_rfl) (by kernel_rfl) (by rfl) (fun _ _ d _ _ h => by cases d <;> exact h) (st0) (hSq).out (by kernel_rfl) ?_
          intro Kq hKq
          go_big_quiet_op
          go_big_quiet_on
          refine Go.Pin.takeQ 9 (by simp only [List.getElem?_toArray, List.getElem?_cons_zero, List.getElem?_cons_succ]; exact rfl) (by kernel_rfl) (by kernel_rfl) (by kernel_rfl) (by rfl) (fun _ _ d _ _ h => by cases d <;> exact h) (st0) (hSq).out (by kernel_rfl) ?_
          intro Kq hKq
          go_big_quiet_op
          go_big_quiet_on
          refine Go.Pin.takeQ 10 (by simp only [List.getElem?_toArray, List.getElem?_cons_zero, List.getElem?_cons_succ]; exact rfl) (by kernel_rfl) (by kernel_rfl) (by kernel_rfl) (by rfl) (fun _ _ d _ _ h => by cases d <;> exact h) (st0) (hSq).out (by kernel_rfl) ?_
          intro Kq hKq
          go_big_quiet_op
          go_big_quiet_on
          refine Go.Pin.takeQ 11 (by simp only [List.getElem?_toArray, List.getElem?_cons_zero, List.getElem?_cons_succ]; exact rfl) (by kernel_rfl) (by kernel_rfl) (by kernel_rfl) (by rfl) (fun _ _ d _ _ h => by cases d <;> exact h) (st0) (hSq).out (by kernel_rfl) ?_
          intro Kq hKq
          go_big_quiet_op
          go_big_quiet_on
          refine Go.Pin.takeQ 12 (by simp only [List.getElem?_toArray, List.getElem?_cons_zero, List.getElem?_cons_succ]; exact rfl) (by kernel_rfl) (by kernel_rfl) (by kernel_rfl) (by rfl) (fun _ _ d _ _ h => by cases d <;> exact h) (st0) (hSq).out (by kernel_rfl) ?_
          intro Kq hKq
          go_big_quiet_op
          go_big_quiet_on
          have hVd : Below n w V.drew := (HVC.out _ st0).2.2.old
          have CN := must_no V.drew (HE.out _ hVd)
          have HVD : Hid (Below n w V.drew) := hVd
          refine Go.Pin.readyQ 13 (by simp only [List.getElem?_toArray, List.getElem?_cons_zero, List.getElem?_cons_succ]; exact rfl) (by kernel_rfl) (by kernel_rfl) ?_
          intro K hK
          refine wpCallP rfl (args := #[.bool false]) (by simp only [List.map_toArray, List.map_cons, List.map_nil]; rfl) (fun _ => rfl) (CN.mono (R' := fun e w' => e = PN ea ∧ w' = V.drew) (fun e w' h => h)) ?_
          rintro w' rfl
          simp only [Exit.then, Exit.inBlock]
          refine ⟨rfl, by rw [hn]; exact HVD.out, ?_⟩
          rw [HBAD.out]
    · have b1 : ¬ (i : Int) < (L : Int) := by omega
      have hiL : i = L := by omega
      obtain ⟨b0, b1', hkn⟩ := knw_rise (fs := fs) (by have := HL.out.1; omega) (fun j hj => hrs j (by have := HL.out.1; omega)) H01.out
      have HKN : Hid (knw (lvl fs) = some (b0, b1') ∧ i = fs.length) := ⟨hkn, by have := HL.out.1; omega⟩
      obtain ⟨⟨x0, y0, z0, e0⟩, ⟨x1, y1, z1, e1⟩⟩ := KVn_sl (fs := fs) HSL.out i (by have := HL.out.1; omega)
      have hrow := hk.row
      have hlt := hk.lt
      have hold := hk.old
      rw [e0, e1] at hrow
      have HE01 : Hid ((KVn fs i).1 = .slice x0 y0 z0 ∧ (KVn fs i).2 = .slice x1 y1 z1) := ⟨e0, e1⟩
      have HROW : Hid (wr.heap[n]? = some (.cells #[.slice x0 y0 z0, .slice x1 y1 z1] 23) ∧ Below n w wr) := ⟨hrow, hold⟩
      have i2 : (Tryz.prog.info? 23).map (·.size) = some 2 := by kernel_rfl
      have HI2 : Hid ((Tryz.prog.info? 23).map (·.size) = some (#[Value.slice x0 y0 z0, Value.slice x1 y1 z1] : Array Value).size ∧ (#[Value.slice x0 y0 z0, Value.slice x1 y1 z1] : Array Value).all (·.oneCell') = true) := ⟨i2, by simp [Value.oneCell']⟩
      clear hkn hrs hk hi hiL e0 e1 hrow hold hlt i2
      go_wp2_with (first
        | (with_reducible refine at_list ?_; refine wpList_load_row rfl 23 (.tmp 2) rfl n rfl 23 #[.slice x0 y0 z0, .slice x1 y1 z1] (0, 0) _ HROW.out.1 Tryz.underlying23 rfl HI2.out.1 ?_)
        | (with_reducible refine at_list ?_; refine wpList_store_row rfl 23 (.tmp 2) (.tmp 36) rfl n #[.slice x0 y0 z0, .slice x1 y1 z1] rfl rfl 23 #[.slice x0 y0 z0, .slice x1 y1 z1] HROW.out.1 HI2.out.1 rfl HI2.out.2 ?_))
      refine bodyPost_ret (v := .agg #[.slice x0 y0 z0, .slice x1 y1 z1]) ?_ rfl ⟨?_, ?_⟩
      · exact results_cell_row (P := Tryz.prog) (fn := Tryz.f44) (p := 2) (ty := 23) rfl _ _ n 23 _ (0, 0) _ rfl (setRow_heap _ _ _ _ 23 _ HROW.out.1) Tryz.underlying23 rfl HI2.out.1
      · rw [hn]
        exact below_setRow HROW.out.2 _ (Nat.le_refl _) _
      · rw [HKN.out.1]
        show _ = _
        rw [← HKN.out.2, HE01.out.1, HE01.out.2]
end Go.Proofs.YtpfidohkohldaaaGreatDoor
