import Derived.Test.YtmlcgcmoioekpabGreatDoorMqbc
import Derived.Test.YtmlcgcmoioekpabGreatDoorMqbd
namespace Go.Proofs.YtmlcgcmoioekpabGreatDoor
set_option linter.unusedSimpArgs false
set_option linter.unusedVariables false
set_option maxRecDepth 100000
open Go.ChangeShapes Go.WideShapes Go.ChangeAt Go.RowKit Go.Pin Go.Pat Go.Deep
theorem rdp_sl {w : World} {v : Value} {p : Pt} (h : RdP w v p) : ∃ a0 k0 a1 k1 al kl, v = .agg #[.string p.nm, .slice a0 p.b0.length k0, .slice a1 p.b1.length k1, .slice al p.ln.length kl] := by
  obtain ⟨v0, v1, vl, rfl, ⟨a0, k0, rfl, _⟩, ⟨a1, k1, rfl, _⟩, ⟨al, kl, rfl, _⟩⟩ := h
  exact ⟨a0, k0, a1, k1, al, kl, rfl⟩
theorem measN {i n : Nat} (h : i < n) : n - (intOf (Value.int .i64 ((i : Int) + 1))).toNat < n - (intOf (Value.int .i64 (i : Int))).toNat := by
  show n - ((i : Int) + 1).toNat < n - ((i : Int)).toNat
  omega
/-- one token, counted or not -/
def inc (b : Bool) (x t : Int) : Nat := if x = t ∧ b = true then 1 else 0
theorem inc_le (b : Bool) (x t : Int) : inc b x t ≤ 1 := by unfold inc; split <;> omega
theorem cn_take (b : Bool) (t : Int) (l : List Int) {k : Nat} (hk : k < l.length) : cn b t (l.take (k + 1)) = cn b t (l.take k) + inc b (l.getD k 0) t := by
  unfold cn inc
  cases b with
  | true => simp [nc_take t l hk]
  | false => simp
theorem cn_le (b : Bool) (t : Int) (l : List Int) : cn b t l ≤ l.length := by
  unfold cn
  split
  · exact nc_le t l
  · omega
theorem cl_le (side t : Int) (L : List Ln) (h : ∀ l ∈ L, l.2.length ≤ 24) : cl side t L ≤ 24 * L.length := by
  induction L with
  | nil => simp [cl]
  | cons x r ih =>
    have h1 := ih (fun l hl => h l (by simp [hl]))
    have h2 := h x (by simp)
    have h3 := cn_le (sdB side x.1) t x.2
    simp only [cl, List.length_cons]
    omega
set_option maxHeartbeats 8000000 in
/-- the loop over one list known ahead -/
theorem count_any (v : Value) (p : Pt) (side t : Int) (W : World) (hR : RdP W v p) (hs : shaped p = true) :
    Calls Tryz.prog 40 #[v, .int .i64 side, .int .i64 t] W fun e w' => e = .returned (.int .i64 (cntP p side t)) ∧ Below W.heap.size W w' := by
  obtain ⟨a0, p0, a1, p1, al, cv, rfl⟩ := rdp_sl hR
  have hst := bx_new W hR
  have hal : Below W.heap.size W (W.alloc (.cells #[.string p.nm, .slice a0 p.b0.length p0, .slice a1 p.b1.length p1, .slice al p.ln.length cv] 26)) := (Below.refl _ _).alloc (Nat.le_refl _) _
  obtain ⟨q, hq⟩ : ∃ q, W.heap.size = q := ⟨_, rfl⟩
  obtain ⟨n0, hn0⟩ : ∃ n0, p.b0.length = n0 := ⟨_, rfl⟩
  obtain ⟨n1, hn1⟩ : ∃ n1, p.b1.length = n1 := ⟨_, rfl⟩
  obtain ⟨nl, hnl⟩ : ∃ nl, p.ln.length = nl := ⟨_, rfl⟩
  obtain ⟨m0, m1, m2, m3, m4⟩ := shaped_all hs
  rw [hn0] at m0
  rw [hn1] at m1
  rw [hnl] at m2 m3
  simp only [hn0, hn1, hnl] at hst hal ⊢
  obtain ⟨W1, hW1⟩ : ∃ W1, W.alloc (.cells #[.string p.nm, .slice a0 n0 p0, .slice a1 n1 p1, .slice al nl cv] 26) = W1 := ⟨_, rfl⟩
  simp only [hq, hW1] at hst hal ⊢
  have hrd := hst.rd
  obtain ⟨u0, u1, ul, e, r0, r1, rl⟩ := hrd
  injection e with e
  simp only [Array.mk.injEq, List.cons.injEq, and_true] at e
  obtain ⟨_, e0, e1, el⟩ := e
  subst e0 e1 el
  have t0 := fun j (hj : j < n0) => r0.at.2.2 j hj
  have t1 := fun j (hj : j < n1) => r1.at.2.2 j hj
  have tl := fun j (hj : j < nl) => rl.at (j := j) hj
  have HT : Hid ((∀ j, j < n0 → ∃ b o, a0 = some ⟨b, o, none⟩ ∧ W1.cell? ⟨b, o + j, none⟩ = some (.int .i64 (p.b0.getD j 0))) ∧ (∀ j, j < n1 → ∃ b o, a1 = some ⟨b, o, none⟩ ∧ W1.cell? ⟨b, o + j, none⟩ = some (.int .i64 (p.b1.getD j 0)))) := ⟨fun j hj => by obtain ⟨b, o, h1, h2⟩ := t0 j hj; exact ⟨b, o, h1, h2 W1 (Below.refl _ _)⟩, fun j hj => by obtain ⟨b, o, h1, h2⟩ := t1 j hj; exact ⟨b, o, h1, h2 W1 (Below.refl _ _)⟩⟩
  have HL : Hid (∀ j, j < nl → ∃ b o a2 n2 c2, al = some ⟨b, o, none⟩ ∧ W1.cell? ⟨b, o + j * 2, none⟩ = some (.int .i64 (p.ln.getD j (0, [])).1) ∧ W1.cell? ⟨b, o + j * 2 + 1, none⟩ = some (.slice a2 n2 c2) ∧ n2 = (p.ln.getD j (0, [])).2.length ∧ ∀ k, k < n2 → ∃ b2 o2, a2 = some ⟨b2, o2, none⟩ ∧ W1.cell? ⟨b2, o2 + k, none⟩ = some (.int .i64 ((p.ln.getD j (0, [])).2.getD k 0))) := fun j hj => by
    obtain ⟨b, o, a2, n2, c2, h1, h2, h3, h4⟩ := tl j hj
    refine ⟨b, o, a2, n2, c2, h1, (h2 W1 (Below.refl _ _)).1, (h2 W1 (Below.refl _ _)).2, h4, fun k hk => ?_⟩
    obtain ⟨b2, o2, g1, g2⟩ := h3.at.2.2 k hk
    exact ⟨b2, o2, g1, g2 W1 (Below.refl _ _)⟩
  have d1 := hst.c1
  have d2 := hst.c2
  have d3 := hst.c3
  have HB : Hid (Below q W W1) := hal
  have HM : Hid (p.b0.length = n0 ∧ p.b1.length = n1 ∧ p.ln.length = nl ∧ ∀ l ∈ p.ln, l.2.length ≤ 24) := ⟨hn0, hn1, hnl, fun l hl => (m4 l hl).2.2.1⟩
  obtain ⟨C0, hC0⟩ : ∃ C0, cn (sdB side 0) t p.b0 = C0 := ⟨_, rfl⟩
  obtain ⟨C1, hC1⟩ : ∃ C1, cn (sdB side 1) t p.b1 = C1 := ⟨_, rfl⟩
  have HC : Hid (cn (sdB side 0) t p.b0 = C0 ∧ cn (sdB side 1) t p.b1 = C1) := ⟨hC0, hC1⟩
  obtain ⟨C2, hC2⟩ : ∃ C2, C0 + C1 = C2 := ⟨_, rfl⟩
  have HC2 : Hid (C0 + C1 = C2) := hC2
  have k0 : C0 ≤ 2 := by have := cn_le (sdB side 0) t p.b0; omega
  have k1 : C1 ≤ 2 := by have := cn_le (sdB side 1) t p.b1; omega
  have k2 : C2 ≤ 4 := by omega
  have b0 : (n0 : Int) ≤ 2 := by omega
  have b1 : (n1 : Int) ≤ 2 := by omega
  have bl : (nl : Int) ≤ 24 := by omega
  clear hst hal t0 t1 tl r0 r1 rl hs hR hn0 hn1 hnl m4 m2 hC0 hC1 hC2
  go_enter Tryz.func40, Tryz.ntmps40
  go_wp2
  go_loopw [7, 8] (fun v7 v8 wr => (wr = W1) ∧ ((v8 = .int .i64 0 ∧ v7 = .int .i64 0) ∨ (v8 = .int .i64 1 ∧ v7 = .int .i64 C0) ∨ (v8 = .int .i64 2 ∧ v7 = .int .i64 C2))) (fun _ v _ => 2 - (intOf v).toNat)
  case atStart => exact ⟨rfl, .inl ⟨rfl, rfl⟩⟩
  case round =>
    obtain ⟨hw, hrel⟩ := hrel
    obtain rfl : W1 = wr := hw.symm
    rcases hrel with ⟨rfl, rfl⟩ | ⟨rfl, rfl⟩ | ⟨rfl, rfl⟩
    · go_wp2
      go_loopw [7, 9] (fun v7 v9 w' => w' = W1 ∧ ∃ i : Nat, i ≤ n0 ∧ v9 = .int .i64 i ∧ v7 = .int .i64 ((cn (sdB side 0) t (p.b0.take i) : Nat) : Int)) (fun _ v _ => n0 - (intOf v).toNat)
      case atStart => exact ⟨rfl, 0, Nat.zero_le _, rfl, by simp [cn, nc]⟩
      case round =>
        obtain ⟨hw, i, hi, rfl, rfl⟩ := hrel
        obtain rfl : W1 = wr := hw.symm
        have hk : cn (sdB side 0) t (p.b0.take i) ≤ 2 := by have := cn_le (sdB side 0) t (p.b0.take i); have := List.length_take_le i p.b0; have := HM.out; omega
        by_cases hlt : i < n0
        · have HLT : Hid (i < p.b0.length) := by show i < p.b0.length; have := HM.out; omega
          have g1 : (i : Int) < n0 := by omega
          have g2 : (0 : Int) ≤ (i : Int) := by omega
          obtain ⟨b, o, rfl, hc⟩ := HT.out.1 i hlt
          obtain ⟨k, hkk⟩ : ∃ k, cn (sdB side 0) t (p.b0.take i) = k := ⟨_, rfl⟩
          have hk4 : k ≤ 4 := by omega
          have g4 : (k : Int) ≤ 4 := by omega
          have HK : Hid (cn (sdB side 0) t (p.b0.take i) = k) := hkk
          have HLN : Hid (i < n0) := hlt
          rw [hkk]
          clear hk hkk hk4 hlt hi
          obtain ⟨x, hx⟩ : ∃ x, p.b0.getD i 0 = x := ⟨_, rfl⟩
          rw [hx] at hc
          have hinc := cn_take (sdB side 0) t p.b0 (k := i) HLT.out
          rw [hx] at hinc
          clear hx
          by_cases hxt : x = t
          case neg =>
            have HI : Hid (cn (sdB side 0) t (p.b0.take (i + 1)) = cn (sdB side 0) t (p.b0.take i)) := by show _ = _; rw [hinc]; simp [inc, hxt]
            have e1 : decide (x = t) = false := by simpa using hxt
            have e2 : (x == t) = false := by simpa using hxt
            have HX : Hid (x ≠ t) := hxt
            clear hinc hxt
            go_wp2
            exact ⟨⟨trivial, i + 1, HLN.out, congrArg (Value.int .i64) (Int.natCast_succ i).symm, by rw [HI.out, HK.out]⟩, measN HLN.out⟩
          have HXT : Hid (x = t) := hxt
          have e1 : decide (x = t) = true := by simpa using hxt
          have e2 : (x == t) = true := by simpa using hxt
          by_cases hsd : sdB side 0 = true
          case pos =>
            have HI : Hid (cn (sdB side 0) t (p.b0.take (i + 1)) = cn (sdB side 0) t (p.b0.take i) + 1) := by show _ = _; rw [hinc]; simp [inc, hxt, hsd]
            clear hinc hxt
            by_cases hneg : side < 0
            · have f1 : decide (side < 0) = true := by simpa using hneg
              have HNG : Hid (side < 0) := hneg
              clear hneg hsd
              go_wp2
              exact ⟨⟨trivial, i + 1, HLN.out, congrArg (Value.int .i64) (Int.natCast_succ i).symm, by rw [HI.out]; have := HK.out; exact congrArg (Value.int .i64) (by omega)⟩, measN HLN.out⟩
            · have f1 : decide (side < 0) = false := by simpa using hneg
              have hse : side = 0 := by unfold sdB at hsd; simpa [hneg] using hsd
              have f2 : decide (side = 0) = true := by simpa using hse
              have f3 : (side == 0) = true := by simpa using hse
              have HNG : Hid (¬ side < 0 ∧ side = 0) := ⟨hneg, hse⟩
              clear hneg hsd hse
              go_wp2
              exact ⟨⟨trivial, i + 1, HLN.out, congrArg (Value.int .i64) (Int.natCast_succ i).symm, by rw [HI.out]; have := HK.out; exact congrArg (Value.int .i64) (by omega)⟩, measN HLN.out⟩
          have HI : Hid (cn (sdB side 0) t (p.b0.take (i + 1)) = cn (sdB side 0) t (p.b0.take i)) := by show _ = _; rw [hinc]; simp [inc, hsd]
          have hsd2 : ¬ side < 0 ∧ ¬ side = 0 := by unfold sdB at hsd; simpa using hsd
          have f1 : decide (side < 0) = false := by simpa using hsd2.1
          have f2 : decide (side = 0) = false := by simpa using hsd2.2
          have f3 : (side == 0) = false := by simpa using hsd2.2
          have HNG : Hid (¬ side < 0 ∧ ¬ side = 0) := hsd2
          clear hinc hxt hsd hsd2
          go_wp2
          exact ⟨⟨trivial, i + 1, HLN.out, congrArg (Value.int .i64) (Int.natCast_succ i).symm, by rw [HI.out, HK.out]⟩, measN HLN.out⟩
        · obtain rfl : i = n0 := by omega
          have g1 : ¬ (i : Int) < i := by omega
          have HF : Hid (cn (sdB side 0) t (p.b0.take i) = C0) := by
            show _ = _
            rw [List.take_of_length_le (by have := HM.out; omega)]
            have := HC.out
            have := HC2.out
            omega
          rw [HF.out]
          go_wp2
          exact ⟨⟨trivial, .inr (.inl ⟨rfl, rfl⟩)⟩, by decide⟩
    · go_wp2
      go_loopw [7, 9] (fun v7 v9 w' => w' = W1 ∧ ∃ i : Nat, i ≤ n1 ∧ v9 = .int .i64 i ∧ v7 = .int .i64 ((C0 + cn (sdB side 1) t (p.b1.take i) : Nat) : Int)) (fun _ v _ => n1 - (intOf v).toNat)
      case atStart => exact ⟨rfl, 0, Nat.zero_le _, rfl, by simp [cn, nc]⟩
      case round =>
        obtain ⟨hw, i, hi, rfl, rfl⟩ := hrel
        obtain rfl : W1 = wr := hw.symm
        have hk : cn (sdB side 1) t (p.b1.take i) ≤ 2 := by have := cn_le (sdB side 1) t (p.b1.take i); have := List.length_take_le i p.b1; have := HM.out; omega
        by_cases hlt : i < n1
        · have HLT : Hid (i < p.b1.length) := by show i < p.b1.length; have := HM.out; omega
          have g1 : (i : Int) < n1 := by omega
          have g2 : (0 : Int) ≤ (i : Int) := by omega
          obtain ⟨b, o, rfl, hc⟩ := HT.out.2 i hlt
          obtain ⟨k, hkk⟩ : ∃ k, C0 + cn (sdB side 1) t (p.b1.take i) = k := ⟨_, rfl⟩
          have hk4 : k ≤ 4 := by omega
          have g4 : (k : Int) ≤ 4 := by omega
          have HK : Hid (C0 + cn (sdB side 1) t (p.b1.take i) = k) := hkk
          have HLN : Hid (i < n1) := hlt
          rw [hkk]
          clear hk hkk hk4 hlt hi
          obtain ⟨x, hx⟩ : ∃ x, p.b1.getD i 0 = x := ⟨_, rfl⟩
          rw [hx] at hc
          have hinc := cn_take (sdB side 1) t p.b1 (k := i) HLT.out
          rw [hx] at hinc
          clear hx
          by_cases hxt : x = t
          case neg =>
            have HI : Hid (cn (sdB side 1) t (p.b1.take (i + 1)) = cn (sdB side 1) t (p.b1.take i)) := by show _ = _; rw [hinc]; simp [inc, hxt]
            have e1 : decide (x = t) = false := by simpa using hxt
            have e2 : (x == t) = false := by simpa using hxt
            have HX : Hid (x ≠ t) := hxt
            clear hinc hxt
            go_wp2
            exact ⟨⟨trivial, i + 1, HLN.out, congrArg (Value.int .i64) (Int.natCast_succ i).symm, by rw [HI.out, HK.out]⟩, measN HLN.out⟩
          have HXT : Hid (x = t) := hxt
          have e1 : decide (x = t) = true := by simpa using hxt
          have e2 : (x == t) = true := by simpa using hxt
          by_cases hsd : sdB side 1 = true
          case pos =>
            have HI : Hid (cn (sdB side 1) t (p.b1.take (i + 1)) = cn (sdB side 1) t (p.b1.take i) + 1) := by show _ = _; rw [hinc]; simp [inc, hxt, hsd]
            clear hinc hxt
            by_cases hneg : side < 0
            · have f1 : decide (side < 0) = true := by simpa using hneg
              have HNG : Hid (side < 0) := hneg
              clear hneg hsd
              go_wp2
              exact ⟨⟨trivial, i + 1, HLN.out, congrArg (Value.int .i64) (Int.natCast_succ i).symm, by rw [HI.out]; have := HK.out; exact congrArg (Value.int .i64) (by omega)⟩, measN HLN.out⟩
            · have f1 : decide (side < 0) = false := by simpa using hneg
              have hse : side = 1 := by unfold sdB at hsd; simpa [hneg] using hsd
              have f2 : decide (side = 1) = true := by simpa using hse
              have f3 : (side == 1) = true := by simpa using hse
              have HNG : Hid (¬ side < 0 ∧ side = 1) := ⟨hneg, hse⟩
              clear hneg hsd hse
              go_wp2
              exact ⟨⟨trivial, i + 1, HLN.out, congrArg (Value.int .i64) (Int.natCast_succ i).symm, by rw [HI.out]; have := HK.out; exact congrArg (Value.int .i64) (by omega)⟩, measN HLN.out⟩
          have HI : Hid (cn (sdB side 1) t (p.b1.take (i + 1)) = cn (sdB side 1) t (p.b1.take i)) := by show _ = _; rw [hinc]; simp [inc, hsd]
          have hsd2 : ¬ side < 0 ∧ ¬ side = 1 := by unfold sdB at hsd; simpa using hsd
          have f1 : decide (side < 0) = false := by simpa using hsd2.1
          have f2 : decide (side = 1) = false := by simpa using hsd2.2
          have f3 : (side == 1) = false := by simpa using hsd2.2
          have HNG : Hid (¬ side < 0 ∧ ¬ side = 1) := hsd2
          clear hinc hxt hsd hsd2
          go_wp2
          exact ⟨⟨trivial, i + 1, HLN.out, congrArg (Value.int .i64) (Int.natCast_succ i).symm, by rw [HI.out, HK.out]⟩, measN HLN.out⟩
        · obtain rfl : i = n1 := by omega
          have g1 : ¬ (i : Int) < i := by omega
          have HF : Hid (C0 + cn (sdB side 1) t (p.b1.take i) = C2) := by
            show _ = _
            rw [List.take_of_length_le (by have := HM.out; omega)]
            have := HC.out
            have := HC2.out
            omega
          rw [HF.out]
          go_wp2
          exact ⟨⟨trivial, .inr (.inr ⟨rfl, rfl⟩)⟩, by decide⟩
    · go_wp2
      clear k0 k1
      go_loopw [7, 10] (fun v7 v10 w' => w' = W1 ∧ ∃ j : Nat, j ≤ nl ∧ v10 = .int .i64 j ∧ v7 = .int .i64 ((C2 + cl side t (p.ln.take j) : Nat) : Int)) (fun _ v _ => nl - (intOf v).toNat)
      case atStart => exact ⟨rfl, 0, Nat.zero_le _, rfl, by simp [cl]⟩
      case round =>
        obtain ⟨hw, j, hj, rfl, rfl⟩ := hrel
        obtain rfl : W1 = wr := hw.symm
        have hk : cl side t (p.ln.take j) ≤ 576 := by have h1 := cl_le side t (p.ln.take j) (fun l hl => HM.out.2.2.2 l (List.mem_of_mem_take hl)); have h2 := List.length_take_le j p.ln; omega
        obtain ⟨D, hD⟩ : ∃ D, C2 + cl side t (p.ln.take j) = D := ⟨_, rfl⟩
        have HD : Hid (C2 + cl side t (p.ln.take j) = D) := hD
        rw [hD]
        have hD5 : D ≤ 580 := by omega
        clear hD hk
        by_cases hlt : j < nl
        · have HLJ : Hid (j < nl) := hlt
          have hcl := cl_take side t p.ln (k := j) (by have := HM.out; omega)
          obtain ⟨b, o, a2, n2, c2, rfl, hcf, hct, hn2, htok⟩ := HL.out j hlt
          have hmem : p.ln.getD j (0, []) ∈ p.ln := by
            have hjl : j < p.ln.length := by have := HM.out; omega
            rw [show p.ln.getD j (0, []) = p.ln[j] by simp [List.getD, hjl]]
            exact List.getElem_mem _
          have h24 := HM.out.2.2.2 _ hmem
          obtain ⟨l, hl⟩ : ∃ l, p.ln.getD j (0, []) = l := ⟨_, rfl⟩
          rw [hl] at hcl hcf hn2 htok h24
          obtain ⟨f, ts⟩ := l
          simp only at hcl hcf hct hn2 htok h24
          have HCL : Hid _ := hcl
          have HTK : Hid _ := htok
          have HN2 : Hid (ts.length = n2) := hn2.symm
          have m24 : n2 ≤ 24 := by omega
          have g1 : (j : Int) < nl := by omega
          have g2 : (0 : Int) ≤ (j : Int) := by omega
          clear hmem hl hcl htok hlt hj hn2 h24
          go_wp2
          go_loopw [7, 11] (fun v7 v11 w' => w' = W1 ∧ ∃ i : Nat, i ≤ n2 ∧ v11 = .int .i64 i ∧ v7 = .int .i64 ((D + cn (sdB side f) t (ts.take i) : Nat) : Int)) (fun _ v _ => n2 - (intOf v).toNat)
          case atStart => exact ⟨rfl, 0, Nat.zero_le _, rfl, by simp [cn, nc]⟩
          case round =>
            obtain ⟨hw, i, hi, rfl, rfl⟩ := hrel
            obtain rfl : W1 = wr := hw.symm
            have hk : cn (sdB side f) t (ts.take i) ≤ 24 := by have := cn_le (sdB side f) t (ts.take i); have := List.length_take_le i ts; omega
            by_cases hlt : i < n2
            · have HLT : Hid (i < ts.length) := by show i < ts.length; have := HN2.out; omega
              have g3 : (i : Int) < n2 := by omega
              have g4 : (0 : Int) ≤ (i : Int) := by omega
              obtain ⟨b2, o2, rfl, hc⟩ := HTK.out i hlt
              obtain ⟨k, hkk⟩ : ∃ k, D + cn (sdB side f) t (ts.take i) = k := ⟨_, rfl⟩
              have hk4 : k ≤ 604 := by omega
              have g5 : (k : Int) ≤ 604 := by omega
              have HK : Hid (D + cn (sdB side f) t (ts.take i) = k) := hkk
              have HLN : Hid (i < n2) := hlt
              rw [hkk]
              clear hk hkk hk4 hlt hi
              obtain ⟨x, hx⟩ : ∃ x, ts.getD i 0 = x := ⟨_, rfl⟩
              rw [hx] at hc
              have hinc := cn_take (sdB side f) t ts (k := i) HLT.out
              rw [hx] at hinc
              clear hx
              by_cases hxt : x = t
              case neg =>
                have HI : Hid (cn (sdB side f) t (ts.take (i + 1)) = cn (sdB side f) t (ts.take i)) := by show _ = _; rw [hinc]; simp [inc, hxt]
                have e1 : decide (x = t) = false := by simpa using hxt
                have e2 : (x == t) = false := by simpa using hxt
                have HX : Hid (x ≠ t) := hxt
                clear hinc hxt
                go_wp2
                exact ⟨⟨trivial, i + 1, HLN.out, congrArg (Value.int .i64) (Int.natCast_succ i).symm, by rw [HI.out, HK.out]⟩, measN HLN.out⟩
              have HXT : Hid (x = t) := hxt
              have e1 : decide (x = t) = true := by simpa using hxt
              have e2 : (x == t) = true := by simpa using hxt
              by_cases hsd : sdB side f = true
              case pos =>
                have HI : Hid (cn (sdB side f) t (ts.take (i + 1)) = cn (sdB side f) t (ts.take i) + 1) := by show _ = _; rw [hinc]; simp [inc, hxt, hsd]
                clear hinc hxt
                by_cases hneg : side < 0
                · have f1 : decide (side < 0) = true := by simpa using hneg
                  have HNG : Hid (side < 0) := hneg
                  clear hneg hsd
                  go_wp2
                  exact ⟨⟨trivial, i + 1, HLN.out, congrArg (Value.int .i64) (Int.natCast_succ i).symm, by rw [HI.out]; have := HK.out; exact congrArg (Value.int .i64) (by omega)⟩, measN HLN.out⟩
                · have f1 : decide (side < 0) = false := by simpa using hneg
                  have hse : side = f := by unfold sdB at hsd; simpa [hneg] using hsd
                  have f2 : decide (side = f) = true := by simpa using hse
                  have f3 : (side == f) = true := by simpa using hse
                  have HNG : Hid (¬ side < 0 ∧ side = f) := ⟨hneg, hse⟩
                  clear hneg hsd hse
                  go_wp2
                  exact ⟨⟨trivial, i + 1, HLN.out, congrArg (Value.int .i64) (Int.natCast_succ i).symm, by rw [HI.out]; have := HK.out; exact congrArg (Value.int .i64) (by omega)⟩, measN HLN.out⟩
              have HI : Hid (cn (sdB side f) t (ts.take (i + 1)) = cn (sdB side f) t (ts.take i)) := by show _ = _; rw [hinc]; simp [inc, hsd]
              have hsd2 : ¬ side < 0 ∧ ¬ side = f := by unfold sdB at hsd; simpa using hsd
              have f1 : decide (side < 0) = false := by simpa using hsd2.1
              have f2 : decide (side = f) = false := by simpa using hsd2.2
              have f3 : (side == f) = false := by simpa using hsd2.2
              have HNG : Hid (¬ side < 0 ∧ ¬ side = f) := hsd2
              clear hinc hxt hsd hsd2
              go_wp2
              exact ⟨⟨trivial, i + 1, HLN.out, congrArg (Value.int .i64) (Int.natCast_succ i).symm, by rw [HI.out, HK.out]⟩, measN HLN.out⟩
            · obtain rfl : i = n2 := by omega
              have g3 : ¬ (i : Int) < i := by omega
              have HF : Hid (D + cn (sdB side f) t (ts.take i) = C2 + cl side t (p.ln.take (j + 1))) := by
                show _ = _
                rw [List.take_of_length_le (by have := HN2.out; omega), HCL.out]
                have := HD.out
                omega
              rw [HF.out]
              go_wp2
              exact ⟨⟨trivial, j + 1, HLJ.out, congrArg (Value.int .i64) (Int.natCast_succ j).symm, rfl⟩, measN HLJ.out⟩
        · obtain rfl : j = nl := by omega
          have g1 : ¬ (j : Int) < j := by omega
          have HF : Hid (D = cntP p side t) := by
            show D = cntP p side t
            have h1 := HD.out
            rw [List.take_of_length_le (by have := HM.out; omega)] at h1
            have h2 := HC.out
            have h3 := HC2.out
            unfold cntP
            omega
          go_wp2
          go_ret
          exact ⟨by rw [HF.out]; rfl, HB.out⟩
end Go.Proofs.YtmlcgcmoioekpabGreatDoor
