import Derived.Test.YtdakhiafagambaaDoorFrL
/- stage 20: two Readers in turns -/
namespace Go.Proofs.YtdakhiafagambaaDoor
set_option linter.unusedSimpArgs false
set_option linter.unusedVariables false
open Go.ChangeShapes Go.WideShapes Go.ChangeAt Go.RowKit Go.Pin
/-- two Pairs have nothing in common -/
structure Ap (ga : Nat) (Fa : List Nat) (va : Value) (gb : Nat) (Fb : List Nat) (vb : Value) : Prop where
  gg : ga ≠ gb
  gF : ga ∉ Fb
  gv : vb.ownBlock ≠ some ga
  Fg : gb ∉ Fa
  vg : va.ownBlock ≠ some gb
  FF : ∀ k ∈ Fa, k ∉ Fb
  Fv : ∀ k ∈ Fa, vb.ownBlock ≠ some k
  vF : ∀ k ∈ Fb, va.ownBlock ≠ some k
theorem Ap.symm {ga gb : Nat} {Fa Fb : List Nat} {va vb : Value} (h : Ap ga Fa va gb Fb vb) : Ap gb Fb vb ga Fa va :=
  ⟨fun e => h.gg e.symm, h.Fg, h.vg, h.gF, h.gv, fun k hk hm => h.FF k hm hk, h.vF, h.Fv⟩
/-- two Pairs, their memory from q on -/
def T2 (rep : Nat → List Int → List Nat → World → Prop) (q : Nat) (W : World) (ga ra : Nat) (Ha : List Int) (gb rb : Nat) (Hb : List Int) (Y : World) : Prop :=
  ∃ va Fa vb Fb, PR rep ga ra Ha va Fa Y ∧ PR rep gb rb Hb vb Fb Y ∧ Ap ga Fa va gb Fb vb ∧ Below q W Y ∧ q ≤ Y.heap.size ∧ (q ≤ ga ∧ q ≤ gb) ∧ (∀ k ∈ Fa, q ≤ k) ∧ ∀ k ∈ Fb, q ≤ k
section
variable {rep : Nat → List Int → List Nat → World → Prop} {q ga ra gb rb : Nat} {W Y Y' : World} {Ha Hb : List Int}
theorem T2.symm (h : T2 rep q W ga ra Ha gb rb Hb Y) : T2 rep q W gb rb Hb ga ra Ha Y := by
  obtain ⟨va, Fa, vb, Fb, h1, h2, h3, h4, h5, h6, h7, h8⟩ := h
  exact ⟨vb, Fb, va, Fa, h2, h1, h3.symm, h4, h5, h6.symm, h8, h7⟩
theorem T2.bl (h : T2 rep q W ga ra Ha gb rb Hb Y) : Below q W Y := by
  obtain ⟨va, Fa, vb, Fb, h1, h2, h3, h4, h5⟩ := h
  exact h4
theorem T2.below (hR : RdrC rep) (h : T2 rep q W ga ra Ha gb rb Hb Y) (hb : Below Y.heap.size Y Y') : T2 rep q W ga ra Ha gb rb Hb Y' := by
  obtain ⟨va, Fa, vb, Fb, h1, h2, h3, h4, h5, h6⟩ := h
  exact ⟨va, Fa, vb, Fb, h1.below hR hb, h2.below hR hb, h3, h4.trans (hb.mono h5), Nat.le_trans h5 hb.size, h6⟩
theorem T2.step (hR : RdrC rep) (h : T2 rep q W ga ra Ha gb rb Hb Y) (k : Int) {C : List Int} {vx : Value} (hx : RdY Y vx C) (hxn : C ≠ [] → ∀ k, vx.ownBlock = some k → k < q) (hl : Ha.length + C.length ≤ 1000000) (hc : C.length ≤ 300000) :
    Calls Tryd.prog 17 #[.pointer (some ⟨ga, 0, none⟩), .agg #[.int .i64 k, vx]] Y fun e w' => e = .returned (.bool true) ∧ T2 rep q W ga ra (stpH Ha k C) gb rb Hb w' := by
  obtain ⟨va, Fa, vb, Fb, h1, h2, h3, h4, h5, h6, h7, h8⟩ := h
  refine (step_any hR k h1 hx (fun h0 j hj => ⟨by have := hxn h0 j hj; omega, fun hm => by have := hxn h0 j hj; have := h7 j hm; omega⟩) hl hc).mono ?_
  rintro e w' ⟨he, va', Fa', g1, g2, g3, g4⟩
  have hlb : ∀ k, k = gb ∨ k ∈ Fb ∨ vb.ownBlock = some k → k < Y.heap.size := fun k hk => by
    rcases hk with rfl | hk | hk
    · exact h2.lt
    · exact hR.lt h2.rp k hk
    · exact (h2.vn k hk).2.2
  have hk2 : ∀ k, k = gb ∨ k ∈ Fb ∨ vb.ownBlock = some k → w'.heap[k]? = Y.heap[k]? := fun k hk => by
    refine g2.blk k (hlb k hk) (fun hm => ?_)
    rcases List.mem_cons.1 hm with e1 | e1
    · subst e1
      rcases hk with e2 | e2 | e2
      · exact h3.gg e2
      · exact h3.gF e2
      · exact h3.gv e2
    · rcases hk with e2 | e2 | e2
      · subst e2; exact h3.Fg e1
      · exact h3.FF k e1 e2
      · exact h3.Fv k e1 e2
  refine ⟨he, va', Fa', vb, Fb, g1, h2.keep hR hk2 g2.size, ⟨h3.gg, h3.gF, h3.gv, fun hm => ?_, fun e1 => ?_, fun k hk hm => ?_, fun k hk e1 => ?_, fun k hk e1 => ?_⟩, g2.below h4 (fun k hk => by rcases List.mem_cons.1 hk with h | h; omega; exact h7 k h) h5, Nat.le_trans h5 g2.size, h6, fun k hk => by rcases g3 k hk with h | h; exact h7 k h; omega, h8⟩
  · rcases g3 gb hm with h | h
    · exact h3.Fg h
    · have := hlb gb (.inl rfl); omega
  · rcases g4 gb e1 with h | h
    · exact h3.vg h
    · have := hlb gb (.inl rfl); omega
  · rcases g3 k hk with h | h
    · exact h3.FF k h hm
    · have := hlb k (.inr (.inl hm)); omega
  · rcases g3 k hk with h | h
    · exact h3.Fv k h e1
    · have := hlb k (.inr (.inr e1)); omega
  · rcases g4 k e1 with h | h
    · exact h3.vF k hk h
    · have := hlb k (.inr (.inl hk)); omega
end
theorem t2_new {rep : Nat → List Int → List Nat → World → Prop} (hR : RdrC rep) (W W1 W2 : World) {q : Nat} (hq : W.heap.size = q) (h1 : (W.alloc (.cells zRd 39)).alloc (.cells #[.pointer (some ⟨q, 0, none⟩), .slice none 0 0] 43) = W1) (h2 : (W1.alloc (.cells zRd 39)).alloc (.cells #[.pointer (some ⟨q + 2, 0, none⟩), .slice none 0 0] 43) = W2) :
    W1.heap.size = q + 2 ∧ T2 rep q W (q + 1) q [] (q + 3) (q + 2) [] W2 := by
  subst hq
  have p1 := pr_new hR W
  rw [h1] at p1
  have b1 : Below W.heap.size W W1 := by rw [← h1]; exact ((Below.refl _ _).alloc (Nat.le_refl _) _).alloc (by rw [size_alloc]; omega) _
  have z1 : W1.heap.size = W.heap.size + 2 := by rw [← h1, size_alloc, size_alloc]
  have p2 := pr_new hR W1
  rw [z1] at p2
  rw [show W.heap.size + 2 + 1 = W.heap.size + 3 from rfl, h2] at p2
  have b2 : Below W1.heap.size W1 W2 := by rw [← h2]; exact ((Below.refl _ _).alloc (Nat.le_refl _) _).alloc (by rw [size_alloc]; omega) _
  refine ⟨z1, _, _, _, _, p1.below hR b2, p2, ⟨by omega, by simp, (fun e => nomatch e), by simp, (fun e => nomatch e), by simp, (fun k _ e => nomatch e), fun k _ e => nomatch e⟩, b1.trans (b2.mono b1.size), Nat.le_trans b1.size b2.size, ⟨by omega, by omega⟩, by simp, by simp⟩
theorem nx_c : nxt [0, 1, 7, 7] = some ([7], [7]) := by decide
set_option maxRecDepth 100000 in
set_option maxHeartbeats 8000000 in
theorem two_walk {ea : Int → Addr} {rep : Nat → List Int → List Nat → World → Prop} (hP : PutC) (hR : RdrC rep) (v : Value) (L : List Stp) (W : World) (hE : Errs ea W) (hS : Scr W v L) :
    Calls Tryd.prog 5 #[v] W fun e w' => e = .returned (.bool true) ∧ Below W.heap.size W w' := by
  have CS := script_any v L W hS
  obtain ⟨a, cap, rfl, -, hm, hat⟩ := hS
  obtain ⟨q, hq⟩ : ∃ q, W.heap.size = q := ⟨_, rfl⟩
  obtain ⟨n, hn⟩ : ∃ n, L.length = n := ⟨_, rfl⟩
  simp only [hn] at CS hm hat ⊢
  rw [hq]
  obtain ⟨W1, hW1⟩ : ∃ W1, (W.alloc (.cells zRd 39)).alloc (.cells #[.pointer (some ⟨q, 0, none⟩), .slice none 0 0] 43) = W1 := ⟨_, rfl⟩
  obtain ⟨W2, hW2⟩ : ∃ W2, (W1.alloc (.cells zRd 39)).alloc (.cells #[.pointer (some ⟨q + 2, 0, none⟩), .slice none 0 0] 43) = W2 := ⟨_, rfl⟩
  obtain ⟨hz1, hT⟩ := t2_new hR W W1 W2 hq hW1 hW2
  have HE : Hid (∀ y, Below q W y → Errs ea y ∧ q ≤ y.heap.size) := fun y hy => ⟨hE.below (by rw [hq]; exact hy), by have := hy.size; omega⟩
  have HAT : Hid (∀ Y, Below q W Y → ∀ i, i < n → ∃ b o u, a = some ⟨b, o, none⟩ ∧ Y.cell? ⟨b, o + i * 2, none⟩ = some (.int .i64 (L.getD i (0, [])).1) ∧ Y.cell? ⟨b, o + i * 2 + 1, none⟩ = some u ∧ RdY Y u (L.getD i (0, [])).2 ∧ ((L.getD i (0, [])).2 ≠ [] → ∀ k, u.ownBlock = some k → k < q)) := fun Y hY i hi => by
    obtain ⟨b, o, u, g1, g2, g3, g4⟩ := hat i hi
    have hY' : Below W.heap.size W Y := by rw [hq]; exact hY
    exact ⟨b, o, u, g1, cell_below hY' g2, cell_below hY' g3, g4.below hY', fun h0 k hk => by rw [← hq]; exact g4.1.own_lt h0 k hk⟩
  have HN : Hid (n ≤ 140737488355328 ∧ L.length = n) := ⟨hm, hn⟩
  have HR : Hid (RdrC rep) := hR
  have HP : Hid PutC := hP
  have H1 : Hid (T2 rep q W (q + 1) q [] (q + 3) (q + 2) [] W2) := hT
  unfold FwP at CS
  clear hE hm hn hR hP hat hT
  go_enter Tryd.func5, Tryd.ntmps5
  go_upto_if 8 with (go_at_call 16; refine CS.mono ?_; rintro e w1 ⟨b, rfl, hf, rfl⟩; have HF : Hid (b = false → Few n (dat L)) := hf; clear CS hf; rcases b with _ | _)
  rotate_left
  · go_wp2
    go_ret
    exact ⟨rfl, Below.refl _ _⟩
  have HFW : Hid (n ≤ 400 ∧ tot (dat L) ≤ 262144) := HF.out trivial
  go_upto_region 5 with (fail)
  clear hq hW1 hW2 hz1 HF
  go_wp2
  go_loopw [5] (fun v5 wr => ∃ (i : Nat) (Ha Hb : List Int), i ≤ n ∧ v5 = .int .i64 i ∧ Ha.length ≤ tot ((dat L).take i) ∧ Hb.length ≤ tot ((dat L).take i) ∧ T2 rep q w1 (q + 1) q Ha (q + 3) (q + 2) Hb wr) (fun v _ => n - (intOf v).toNat)
  case atStart => exact ⟨0, [], [], Nat.zero_le _, rfl, Nat.zero_le _, Nat.zero_le _, H1.out⟩
  case round =>
    obtain ⟨i, Ha, Hb, hi, rfl, hla, hlb, hp⟩ := hrel
    have HQ : Hid (T2 rep q w1 (q + 1) q Ha (q + 3) (q + 2) Hb wr) := hp
    have HLn : Hid (Ha.length ≤ tot ((dat L).take i) ∧ Hb.length ≤ tot ((dat L).take i) ∧ tot ((dat L).take i) ≤ 262144) := ⟨hla, hlb, Nat.le_trans (tot_le _ _) HFW.out.2⟩
    clear hla hlb
    by_cases hlt : i < n
    · have c1 : (i : Int) < (n : Int) := by omega
      have c0 : (0 : Int) ≤ (i : Int) := by omega
      obtain ⟨b, o, u, rfl, x0, x1, hx, hxn⟩ := HAT.out wr hp.bl i hlt
      have hsn := tot_snoc (dat L) (i := i) (by rw [dat_len, HN.out.2]; exact hlt)
      rw [dat_at] at hsn
      have hcl : (L.getD i (0, [])).2.length ≤ 262144 := by
        have h2 := tot_le (dat L) (i + 1)
        have := HFW.out.2
        omega
      obtain ⟨au, cu, rfl, -⟩ := id hx.1
      have HLT : Hid (i < n) := hlt
      have C1 := HQ.out.step HR.out (L.getD i (0, [])).1 hx hxn (by have := HLn.out; omega) (by omega)
      have C2 := HQ.out.symm.step HR.out (L.getD i (0, [])).1 hx hxn (by have := HLn.out; omega) (by omega)
      have hs1 := stpH_len Ha (L.getD i (0, [])).1 (L.getD i (0, [])).2
      have hs2 := stpH_len Hb (L.getD i (0, [])).1 (L.getD i (0, [])).2
      have HSN : Hid (∀ H : List Int, H.length ≤ tot ((dat L).take i) + (L.getD i (0, [])).2.length → H.length ≤ tot ((dat L).take (i + 1))) := fun H h => by rw [hsn]; exact h
      have HS1 : Hid ((stpH Ha (L.getD i (0, [])).1 (L.getD i (0, [])).2).length ≤ tot ((dat L).take i) + (L.getD i (0, [])).2.length ∧ (stpH Hb (L.getD i (0, [])).1 (L.getD i (0, [])).2).length ≤ tot ((dat L).take i) + (L.getD i (0, [])).2.length) := ⟨by have := HLn.out; omega, by have := HLn.out; omega⟩
      clear hsn hcl hx hxn hi hlt hp hs1 hs2
      have HEND : Hid (∀ Y, T2 rep q w1 (q + 1) q (stpH Ha (L.getD i (0, [])).1 (L.getD i (0, [])).2) (q + 3) (q + 2) Hb Y ∨ T2 rep q w1 (q + 1) q Ha (q + 3) (q + 2) (stpH Hb (L.getD i (0, [])).1 (L.getD i (0, [])).2) Y → ∃ Ha Hb : List Int, Ha.length ≤ tot ((dat L).take (i + 1)) ∧ Hb.length ≤ tot ((dat L).take (i + 1)) ∧ T2 rep q w1 (q + 1) q Ha (q + 3) (q + 2) Hb Y) := fun Y hY => by
        have l0 := HLn.out
        rcases hY with hY | hY
        · exact ⟨_, _, HSN.out _ HS1.out.1, HSN.out _ (by omega), hY⟩
        · exact ⟨_, _, HSN.out _ (by omega), HSN.out _ HS1.out.2, hY⟩
      by_cases h3 : i % 3 = 0
      · have m1 : (i : Int) % 3 = 0 := by omega
        have m2 : ((i : Int) % 3 == 0) = true := by simpa using m1
        have n2 : ¬ (i : Int) = 2 := by omega
        have n3 : ((i : Int) == 2) = false := by simpa using n2
        clear h3
        go_upto_region 10 with (go_at_call 17; refine C2.mono ?_; rintro e w2 ⟨rfl, h2⟩; have H2 : Hid (∃ Ha Hb : List Int, Ha.length ≤ tot ((dat L).take (i + 1)) ∧ Hb.length ≤ tot ((dat L).take (i + 1)) ∧ T2 rep q w1 (q + 1) q Ha (q + 3) (q + 2) Hb w2) := HEND.out w2 (.inr h2.symm); clear h2 C1 C2)
        go_wp2
        obtain ⟨Ha', Hb', hE2⟩ := H2.out
        exact ⟨⟨i + 1, Ha', Hb', HLT.out, congrArg (Value.int .i64) (wrapS HLT.out HN.out.1), hE2⟩, measS HLT.out HN.out.1⟩
      · have m1 : ¬ (i : Int) % 3 = 0 := by omega
        have m2 : ((i : Int) % 3 == 0) = false := by simpa using m1
        go_upto_region 10 with (go_at_call 17; refine C1.mono ?_; rintro e w2 ⟨rfl, h2⟩; have H2 : Hid (∃ Ha Hb : List Int, Ha.length ≤ tot ((dat L).take (i + 1)) ∧ Hb.length ≤ tot ((dat L).take (i + 1)) ∧ T2 rep q w1 (q + 1) q Ha (q + 3) (q + 2) Hb w2) := HEND.out w2 (.inl h2); clear h2 C1 C2)
        by_cases hi2 : i = 2
        · have n3 : ((i : Int) == 2) = true := by simp; omega
          have n4 : decide ((i : Int) = 2) = true := by simp; omega
          clear h3 hi2
          have hz := HR.out.zero w2
          have hal1 : Below w2.heap.size w2 (w2.alloc (.cells zRd 39)) := (Below.refl _ _).alloc (Nat.le_refl _) _
          go_upto_region 12 with (fail)
          obtain ⟨g, hg⟩ : ∃ g, w2.heap.size = g := ⟨_, rfl⟩
          obtain ⟨W3, hW3⟩ : ∃ W3, w2.alloc (.cells zRd 39) = W3 := ⟨_, rfl⟩
          rw [hW3] at hal1 hz
          rw [hg] at hal1 hz
          simp only [hg, hW3]
          have HG : Hid (w2.heap.size = g) := hg
          have H3 : Hid (RS rep g w2 [] W3) := ⟨hal1, by have := hal1.size; omega, [g], hz, fun k hk => by rw [List.mem_singleton.1 hk]; exact Nat.le_refl _⟩
          clear hz hal1 hg hW3
          have CF := H3.out.feedL HR.out [0, 1, 7, 7] #[.int .u8 0, .int .u8 1, .int .u8 7, .int .u8 7] rfl 4 rfl (by decide) (by decide)
          simp only [List.nil_append] at CF
          go_upto_region 13 with (go_at_call 19; refine CF.mono ?_; rintro e W4 ⟨rfl, h⟩; have H4 : Hid (RS rep g w2 [0, 1, 7, 7] W4) := h; clear h CF)
          have CN := H4.out.next HR.out (by unfold Byb; decide) (by decide)
          rw [nx_c] at CN
          go_wp2_with (go_at_call 20; refine CN.mono ?_; rintro e W5 ⟨v, b5, rfl, ⟨-, h1⟩⟩; (obtain ⟨rfl, ho, hs, hd⟩ := h1 _ _ rfl); (obtain ⟨a7, k7, rfl⟩ := own_slice' ho); have H5 : Hid (Below w2.heap.size w2 W5) := (by rw [HG.out]; exact hs.1); clear ho hs hd h1 CN)
          obtain ⟨Ha', Hb', hE0⟩ := H2.out
          have hE2 : Ha'.length ≤ tot ((dat L).take (i + 1)) ∧ Hb'.length ≤ tot ((dat L).take (i + 1)) ∧ T2 rep q w1 (q + 1) q Ha' (q + 3) (q + 2) Hb' W5 := ⟨hE0.1, hE0.2.1, hE0.2.2.below HR.out H5.out⟩
          exact ⟨⟨i + 1, Ha', Hb', HLT.out, congrArg (Value.int .i64) (wrapS HLT.out HN.out.1), hE2⟩, measS HLT.out HN.out.1⟩
        · have n2 : ¬ (i : Int) = 2 := by omega
          have n3 : ((i : Int) == 2) = false := by simpa using n2
          clear h3 hi2
          go_wp2
          obtain ⟨Ha', Hb', hE2⟩ := H2.out
          exact ⟨⟨i + 1, Ha', Hb', HLT.out, congrArg (Value.int .i64) (wrapS HLT.out HN.out.1), hE2⟩, measS HLT.out HN.out.1⟩
    · have c1 : ¬ (i : Int) < (n : Int) := by omega
      have l0 := HLn.out
      have C1 := HQ.out.step HR.out 2 (vx := .slice none 0 0) (C := []) (rdy_nil wr) (fun h => absurd rfl h) (by simp; omega) (by decide)
      have hs1 := stpH_len Ha 2 []
      have hs2 := stpH_len Hb 2 []
      have HS : Hid ((stpH Ha 2 []).length ≤ 262144 ∧ (stpH Hb 2 []).length ≤ 262144 ∧ Hb.length ≤ 262144) := ⟨by simp at hs1; omega, by simp at hs2; omega, by omega⟩
      clear hi hlt hp l0 hs1 hs2
      obtain ⟨Hx, hHx⟩ : ∃ H, stpH Ha 2 [] = H := ⟨_, rfl⟩
      obtain ⟨Hy, hHy⟩ : ∃ H, stpH Hb 2 [] = H := ⟨_, rfl⟩
      rw [hHx] at C1
      rw [hHx, hHy] at HS
      have HHY : Hid (stpH Hb 2 [] = Hy) := hHy
      clear hHx hHy
      go_wp2_with (first
        | (go_at_call 17; refine C1.mono ?_; rintro e w2 ⟨rfl, h2⟩; have C2 := h2.symm.step HR.out 2 (vx := .slice none 0 0) (C := []) (rdy_nil w2) (fun h => absurd rfl h) (by have := HS.out; simp; omega) (by decide); rw [HHY.out] at C2; clear h2 C1)
        | (go_at_call 17; refine C2.mono ?_; rintro e w3 ⟨rfl, h3⟩; have C3 := h3.symm.step HR.out 3 (vx := .slice none 0 0) (C := []) (rdy_nil w3) (fun h => absurd rfl h) (by have := HS.out; simp; omega) (by decide); rw [stp3] at C3; clear h3 C2)
        | (go_at_call 17; refine C3.mono ?_; rintro e w4 ⟨rfl, h4⟩; have C4 := h4.symm.step HR.out 3 (vx := .slice none 0 0) (C := []) (rdy_nil w4) (fun h => absurd rfl h) (by have := HS.out; simp; omega) (by decide); rw [stp3] at C4; clear h4 C3)
        | (go_at_call 17; refine C4.mono ?_; rintro e w5 ⟨rfl, h5⟩; have H5 : Hid (Below q w1 w5) := h5.bl; have CK := known_any HP.out HR.out w5 (HE.out _ h5.bl).1; clear h5 C4)
        | (go_at_call 15; refine CK.mono ?_; rintro e w6 ⟨rfl, hb6⟩; have H6 : Hid (Below q w1 w6) := sub_le H5.out hb6 (HE.out _ H5.out).2; clear hb6 CK))
      go_ret
      exact ⟨rfl, H6.out⟩
end Go.Proofs.YtdakhiafagambaaDoor
