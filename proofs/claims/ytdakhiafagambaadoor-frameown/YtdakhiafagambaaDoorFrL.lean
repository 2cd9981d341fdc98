import Derived.Test.YtdakhiafagambaaDoorFrK
/- stage 20: scripts on one Reader -/
namespace Go.Proofs.YtdakhiafagambaaDoor
set_option linter.unusedSimpArgs false
set_option linter.unusedVariables false
open Go.ChangeShapes Go.WideShapes Go.ChangeAt Go.RowKit Go.Pin
theorem RdB.own_lt {w : World} {v : Value} {C : List Int} (h : RdB w v C) (h0 : C ≠ []) : ∀ k, v.ownBlock = some k → k < w.heap.size := fun k hk => by
  obtain ⟨a, c, e, _, _, h3⟩ := h
  rcases h3 with h3 | ⟨b, o, h3, h4⟩
  · exact absurd h3 h0
  · have hl := range_lt h4 (by rw [List.length_map]; exact List.length_pos_iff.2 h0)
    rw [e, h3] at hk
    have e' : some b = some k := hk
    injection e' with e'
    omega
theorem pr_new {rep : Nat → List Int → List Nat → World → Prop} (hR : RdrC rep) (W : World) : PR rep (W.heap.size + 1) W.heap.size [] (.slice none 0 0) [W.heap.size] ((W.alloc (.cells zRd 39)).alloc (.cells #[.pointer (some ⟨W.heap.size, 0, none⟩), .slice none 0 0] 43)) := by
  have e1 : (W.alloc (.cells zRd 39)).heap.size = W.heap.size + 1 := size_alloc _ _
  have hb : Below (W.alloc (.cells zRd 39)).heap.size (W.alloc (.cells zRd 39)) ((W.alloc (.cells zRd 39)).alloc (.cells #[.pointer (some ⟨W.heap.size, 0, none⟩), .slice none 0 0] 43)) := (Below.refl _ _).alloc (Nat.le_refl _) _
  have hz := hR.zero W
  refine ⟨?_, hR.keep hz (fun k hk => hb.block k (hR.lt hz k hk)) hb.size, ⟨none, 0, rfl, ⟨Nat.le_refl _, fun _ => rfl⟩, by decide, .inl rfl⟩, (fun x hx => nomatch hx), by simp, fun k hk => nomatch hk⟩
  have := heap_alloc_new (W.alloc (.cells zRd 39)) (.cells #[.pointer (some ⟨W.heap.size, 0, none⟩), .slice none 0 0] 43)
  rw [e1] at this
  exact this
/-- a Pair whose memory lies from q on -/
def PQ (rep : Nat → List Int → List Nat → World → Prop) (q gp g : Nat) (W : World) (H : List Int) (Y : World) : Prop := ∃ vh F, PR rep gp g H vh F Y ∧ Below q W Y ∧ q ≤ gp ∧ q ≤ Y.heap.size ∧ ∀ k ∈ F, q ≤ k
theorem PQ.next {rep : Nat → List Int → List Nat → World → Prop} {q gp g : Nat} {W : World} {H : List Int} {vh : Value} {F : List Nat} {Y w' : World} {e : Ending} (hb : Below q W Y) (hg : q ≤ gp) (hz : q ≤ Y.heap.size) (hF : ∀ k ∈ F, q ≤ k) (h : StP rep gp g H vh F Y e w') : e = .returned (.bool true) ∧ PQ rep q gp g W H w' := by
  obtain ⟨he, vh', F', h1, h2, h3, -⟩ := h
  exact ⟨he, vh', F', h1, h2.below hb (fun k hk => by rcases List.mem_cons.1 hk with h | h; omega; exact hF k h) hz, hg, Nat.le_trans hz h2.size, fun k hk => by rcases h3 k hk with h | h; exact hF k h; omega⟩
theorem PQ.step {rep : Nat → List Int → List Nat → World → Prop} (hR : RdrC rep) {q gp g : Nat} {W : World} {H C : List Int} {vx : Value} {Y : World} (h : PQ rep q gp g W H Y) (k : Int) (hx : RdY Y vx C) (hxn : C ≠ [] → ∀ k, vx.ownBlock = some k → k < q) (hl : H.length + C.length ≤ 1000000) (hc : C.length ≤ 300000) :
    Calls Tryd.prog 17 #[.pointer (some ⟨gp, 0, none⟩), .agg #[.int .i64 k, vx]] Y fun e w' => e = .returned (.bool true) ∧ PQ rep q gp g W (stpH H k C) w' := by
  obtain ⟨vh, F, h1, h2, h3, h4, h5⟩ := h
  exact (step_any hR k h1 hx (fun h0 j hj => ⟨by have := hxn h0 j hj; omega, fun hm => by have := hxn h0 j hj; have := h5 j hm; omega⟩) hl hc).mono fun e w' h => PQ.next h2 h3 h4 h5 h
def runH (L : List Stp) : List Int := L.foldl (fun H s => stpH H s.1 s.2) []
theorem runH_snoc (L : List Stp) {i : Nat} (h : i < L.length) : runH (L.take (i + 1)) = stpH (runH (L.take i)) (L.getD i (0, [])).1 (L.getD i (0, [])).2 := by
  unfold runH
  rw [List.take_add_one, List.getElem?_eq_getElem h, List.foldl_append]
  simp [List.getD, h]
theorem dat_take (L : List Stp) (i : Nat) : (dat L).take i = dat (L.take i) := by simp [dat, List.map_take]
theorem tot_le (L : List (List Int)) (i : Nat) : tot (L.take i) ≤ tot L := by
  unfold tot
  have : (L.map List.length).sum = ((L.take i).map List.length).sum + ((L.drop i).map List.length).sum := by
    rw [← List.sum_append, ← List.map_append, List.take_append_drop]
  omega
theorem runH_len (L : List Stp) : ∀ i, i ≤ L.length → (runH (L.take i)).length ≤ tot ((dat L).take i)
  | 0, _ => by simp [runH]
  | i + 1, h => by
    have ih := runH_len L i (by omega)
    rw [runH_snoc L (by omega), tot_snoc (dat L) (by rw [dat_len]; omega), dat_at]
    have := stpH_len (runH (L.take i)) (L.getD i (0, [])).1 (L.getD i (0, [])).2
    omega
theorem PQ.below {rep : Nat → List Int → List Nat → World → Prop} (hR : RdrC rep) {q gp g : Nat} {W : World} {H : List Int} {Y Y' : World} (h : PQ rep q gp g W H Y) (hb : Below Y.heap.size Y Y') : PQ rep q gp g W H Y' := by
  obtain ⟨vh, F, h1, h2, h3, h4, h5⟩ := h
  exact ⟨vh, F, h1.below hR hb, h2.trans (hb.mono h4), h3, Nat.le_trans h4 hb.size, h5⟩
theorem PQ.bl {rep : Nat → List Int → List Nat → World → Prop} {q gp g : Nat} {W : World} {H : List Int} {Y : World} (h : PQ rep q gp g W H Y) : Below q W Y := by
  obtain ⟨vh, F, h1, h2, h3⟩ := h
  exact h2
theorem rdy_nil (w : World) : RdY w (.slice none 0 0) [] := ⟨⟨none, 0, rfl, ⟨Nat.le_refl _, fun _ => rfl⟩, by decide, .inl rfl⟩, fun x hx => nomatch hx⟩
theorem stp3 (H : List Int) : stpH H 3 [] = H := by unfold stpH; rw [if_neg (by decide), if_neg (by decide)]
theorem nxt_lt {H m r : List Int} (h : nxt H = some (m, r)) : r.length < H.length := by
  unfold nxt at h
  split at h
  · cases h
  · rename_i hc
    injection h with h
    injection h with h1 h2
    subst h2
    simp
    omega
/-- how many bytes the document's Reader of a Pair keeps -/
def hld (w : World) (gp : Nat) : Nat := match w.cell? ⟨gp, 1, none⟩ with | some (.slice _ n _) => n | _ => 0
theorem PR.hld {rep : Nat → List Int → List Nat → World → Prop} {gp g : Nat} {H : List Int} {vh : Value} {F : List Nat} {Y : World} (h : PR rep gp g H vh F Y) : hld Y gp = H.length := by
  obtain ⟨a, c, e, -⟩ := id h.rd
  unfold Go.Proofs.YtdakhiafagambaaDoor.hld
  rw [h.c1, e]
set_option maxRecDepth 100000 in
set_option maxHeartbeats 8000000 in
theorem plays_walk {ea : Int → Addr} {rep : Nat → List Int → List Nat → World → Prop} (hP : PutC) (hR : RdrC rep) (v : Value) (L : List Stp) (W : World) (hE : Errs ea W) (hS : Scr W v L) :
    Calls Tryd.prog 4 #[v] W fun e w' => e = .returned (.bool true) ∧ Below W.heap.size W w' := by
  have CS := script_any v L W hS
  obtain ⟨a, cap, rfl, -, hm, hat⟩ := hS
  have hst := pr_new hR W
  have hbs : Below W.heap.size W ((W.alloc (.cells zRd 39)).alloc (.cells #[.pointer (some ⟨W.heap.size, 0, none⟩), .slice none 0 0] 43)) := ((Below.refl _ _).alloc (Nat.le_refl _) _).alloc (by rw [size_alloc]; omega) _
  obtain ⟨q, hq⟩ : ∃ q, W.heap.size = q := ⟨_, rfl⟩
  obtain ⟨n, hn⟩ : ∃ n, L.length = n := ⟨_, rfl⟩
  simp only [hn] at CS hm hat ⊢
  rw [hq] at hst hbs ⊢
  obtain ⟨W1, hW1⟩ : ∃ W1, (W.alloc (.cells zRd 39)).alloc (.cells #[.pointer (some ⟨q, 0, none⟩), .slice none 0 0] 43) = W1 := ⟨_, rfl⟩
  rw [hW1] at hst hbs
  have HE : Hid (∀ y, Below q W y → Errs ea y ∧ q ≤ y.heap.size) := fun y hy => ⟨hE.below (by rw [hq]; exact hy), by have := hy.size; omega⟩
  have HAT : Hid (∀ Y, Below q W Y → ∀ i, i < n → ∃ b o u, a = some ⟨b, o, none⟩ ∧ Y.cell? ⟨b, o + i * 2, none⟩ = some (.int .i64 (L.getD i (0, [])).1) ∧ Y.cell? ⟨b, o + i * 2 + 1, none⟩ = some u ∧ RdY Y u (L.getD i (0, [])).2 ∧ ((L.getD i (0, [])).2 ≠ [] → ∀ k, u.ownBlock = some k → k < q)) := fun Y hY i hi => by
    obtain ⟨b, o, u, g1, g2, g3, g4⟩ := hat i hi
    have hY' : Below W.heap.size W Y := by rw [hq]; exact hY
    exact ⟨b, o, u, g1, cell_below hY' g2, cell_below hY' g3, g4.below hY', fun h0 k hk => by rw [← hq]; exact g4.1.own_lt h0 k hk⟩
  have HN : Hid (n ≤ 140737488355328 ∧ L.length = n) := ⟨hm, hn⟩
  have HR : Hid (RdrC rep) := hR
  have HP : Hid PutC := hP
  have H1 : Hid (PQ rep q (q + 1) q W [] W1) := ⟨_, _, hst, hbs, by omega, by have := hst.lt; omega, fun k hk => by rw [List.mem_singleton.1 hk]; exact Nat.le_refl _⟩
  unfold FwP at CS
  clear hE hm hn hR hP hat hst hbs
  go_enter Tryd.func4, Tryd.ntmps4
  go_upto_if 9 with (go_at_call 16; refine CS.mono ?_; rintro e w1 ⟨b, rfl, hf, rfl⟩; have HF : Hid (b = false → Few n (dat L)) := hf; clear CS hf; rcases b with _ | _)
  rotate_left
  · go_wp2
    go_ret
    exact ⟨rfl, Below.refl _ _⟩
  have HFW : Hid (n ≤ 400 ∧ tot (dat L) ≤ 262144) := HF.out trivial
  go_upto_region 4 with (fail)
  clear hq hW1 HF
  go_wp2
  go_loopw [4] (fun v4 wr => ∃ i : Nat, i ≤ n ∧ v4 = .int .i64 i ∧ PQ rep q (q + 1) q w1 (runH (L.take i)) wr) (fun v _ => n - (intOf v).toNat)
  case atStart => exact ⟨0, Nat.zero_le _, rfl, H1.out⟩
  case round =>
    obtain ⟨i, hi, rfl, hp⟩ := hrel
    have HQ : Hid (PQ rep q (q + 1) q w1 (runH (L.take i)) wr) := hp
    have HLn : Hid ((runH (L.take i)).length ≤ 262144) := Nat.le_trans (runH_len L i (by rw [HN.out.2]; exact hi)) (Nat.le_trans (tot_le _ _) HFW.out.2)
    by_cases hlt : i < n
    · have c1 : (i : Int) < (n : Int) := by omega
      have c0 : (0 : Int) ≤ (i : Int) := by omega
      obtain ⟨vh, F, -, hbw, -⟩ := hp
      obtain ⟨b, o, u, rfl, x0, x1, hx, hxn⟩ := HAT.out wr hbw i hlt
      have hsn := runH_snoc L (i := i) (by rw [HN.out.2]; exact hlt)
      have hcl : (L.getD i (0, [])).2.length ≤ 262144 := by
        have h1 := tot_snoc (dat L) (i := i) (by rw [dat_len, HN.out.2]; exact hlt)
        have h2 := tot_le (dat L) (i + 1)
        have := HFW.out.2
        rw [dat_at] at h1
        omega
      obtain ⟨au, cu, rfl, -⟩ := id hx.1
      have C1 := HQ.out.step HR.out (L.getD i (0, [])).1 hx hxn (by have := HLn.out; omega) (by omega)
      rw [← hsn] at C1
      have HLT : Hid (i < n) := hlt
      clear hsn hcl hx hxn hbw hi hlt
      go_wp2_with (go_at_call 17; refine C1.mono ?_; rintro e w2 ⟨rfl, h2⟩; have H2 : Hid (PQ rep q (q + 1) q w1 (runH (L.take (i + 1))) w2) := h2; clear h2 C1)
      exact ⟨⟨i + 1, HLT.out, congrArg (Value.int .i64) (wrapS HLT.out HN.out.1), H2.out⟩, measS HLT.out HN.out.1⟩
    · have c1 : ¬ (i : Int) < (n : Int) := by omega
      obtain rfl : i = n := by omega
      clear hp hi hlt
      have H3 : Hid (∃ H : List Int, H.length ≤ 262144 ∧ PQ rep q (q + 1) q w1 H wr) := ⟨_, HLn.out, HQ.out⟩
      clear HQ HLn HAT
      go_wp2
      go_loopw [] (fun wr => ∃ H : List Int, H.length ≤ 262144 ∧ PQ rep q (q + 1) q w1 H wr) (fun w => hld w (q + 1))
      case atStart => exact H3.out
      case round =>
        obtain ⟨H, hH, hp⟩ := hrel
        have HQ : Hid (PQ rep q (q + 1) q w1 H wr) := hp
        have HHL : Hid (H.length ≤ 262144) := hH
        obtain ⟨vh, F, hpr, hbw, -⟩ := hp
        obtain ⟨ah, ch, hvh, -⟩ := id hpr.rd
        subst hvh
        have hC := rnext_any hpr.rd hpr.by_ (by omega)
        have x1 := hpr.c1
        have HME : Hid (hld wr (q + 1) = H.length) := hpr.hld
        clear hpr hbw hH
        cases hn : nxt H with
        | none =>
          have C1 : Calls Tryd.prog 18 #[.agg #[.slice ah H.length ch]] wr fun e w' => ∃ a2 n2 k2 a3 n3 k3, e = .returned (.tuple #[.slice a2 n2 k2, .bool false, .agg #[.slice a3 n3 k3]]) ∧ Below wr.heap.size wr w' := hC.mono (by
            rintro e w' ⟨v, b, v2, rfl, hb, hm⟩
            rw [hn] at hm
            obtain ⟨rfl, rfl, rfl⟩ := hm
            exact ⟨_, _, _, _, _, _, rfl, hb⟩)
          have HST : Hid (stpH H 2 [] = H) := by show stpH H 2 [] = H; unfold stpH; rw [if_neg (by decide), if_pos rfl, hn]
          have HRL : Hid (H.length ≤ 262144) := HHL.out
          clear hC hn
          go_upto_region 10 with (go_at_call 18; refine C1.mono ?_; rintro e w2 ⟨a2, n2, k2, a3, n3, k3, rfl, hb2⟩; have H4 : Hid (PQ rep q (q + 1) q w1 H w2) := HQ.out.below HR.out hb2; clear hb2 C1 x1)
          have hal : Below w2.heap.size w2 (w2.alloc (.cells #[.slice a3 n3 k3] 41)) := (Below.refl _ _).alloc (Nat.le_refl _) _
          have h5 := H4.out.below HR.out hal
          obtain ⟨w3, hw3⟩ : ∃ w3, w2.alloc (.cells #[.slice a3 n3 k3] 41) = w3 := ⟨_, rfl⟩
          rw [hw3] at h5
          simp only [hw3]
          have C2 := h5.step HR.out 2 (vx := .slice none 0 0) (C := []) (rdy_nil w3) (fun h => absurd rfl h) (by have := HHL.out; simp; omega) (by decide)
          rw [HST.out] at C2
          clear h5 hal hw3
          go_wp2_with (first
            | (go_at_call 17; refine C2.mono ?_; rintro e w4 ⟨rfl, h4⟩; have C3 := h4.step HR.out 3 (vx := .slice none 0 0) (C := []) (rdy_nil w4) (fun h => absurd rfl h) (by have := HRL.out; simp; omega) (by decide); rw [stp3] at C3; clear h4 C2)
            | (go_at_call 17; refine C3.mono ?_; rintro e w5 ⟨rfl, h5⟩; have H5 : Hid (PQ rep q (q + 1) q w1 H w5) := h5; have CK := known_any HP.out HR.out w5 (HE.out _ h5.bl).1; clear h5 C3)
            | (go_at_call 15; refine CK.mono ?_; rintro e w6 ⟨rfl, hb6⟩; have H6 : Hid (Below q w1 w6) := sub_le H5.out.bl hb6 (HE.out _ H5.out.bl).2; clear hb6 CK))
          go_ret
          exact ⟨rfl, H6.out⟩
        | some x =>
          obtain ⟨m, r⟩ := x
          have hlt := nxt_lt hn
          have C1 : Calls Tryd.prog 18 #[.agg #[.slice ah H.length ch]] wr fun e w' => ∃ a2 n2 k2 a3 n3 k3, e = .returned (.tuple #[.slice a2 n2 k2, .bool true, .agg #[.slice a3 n3 k3]]) ∧ Below wr.heap.size wr w' := hC.mono (by
            rintro e w' ⟨v, b, v2, rfl, hb, hm⟩
            rw [hn] at hm
            obtain ⟨rfl, ho, hr, _⟩ := hm
            obtain ⟨a2, k2, rfl⟩ := own_slice' ho
            obtain ⟨a3, k3, rfl, -⟩ := hr
            exact ⟨_, _, _, _, _, _, rfl, hb⟩)
          have HST : Hid (stpH H 2 [] = r) := by show stpH H 2 [] = r; unfold stpH; rw [if_neg (by decide), if_pos rfl, hn]
          have HRL : Hid (r.length ≤ 262144) := by have := HHL.out; show r.length ≤ 262144; omega
          have HLT : Hid (r.length < H.length) := hlt
          clear hC hn hlt
          go_upto_region 10 with (go_at_call 18; refine C1.mono ?_; rintro e w2 ⟨a2, n2, k2, a3, n3, k3, rfl, hb2⟩; have H4 : Hid (PQ rep q (q + 1) q w1 H w2) := HQ.out.below HR.out hb2; clear hb2 C1 x1)
          have hal : Below w2.heap.size w2 (w2.alloc (.cells #[.slice a3 n3 k3] 41)) := (Below.refl _ _).alloc (Nat.le_refl _) _
          have h5 := H4.out.below HR.out hal
          obtain ⟨w3, hw3⟩ : ∃ w3, w2.alloc (.cells #[.slice a3 n3 k3] 41) = w3 := ⟨_, rfl⟩
          rw [hw3] at h5
          simp only [hw3]
          have C2 := h5.step HR.out 2 (vx := .slice none 0 0) (C := []) (rdy_nil w3) (fun h => absurd rfl h) (by have := HHL.out; simp; omega) (by decide)
          rw [HST.out] at C2
          clear h5 hal hw3
          go_wp2_with (first
            | (go_at_call 17; refine C2.mono ?_; rintro e w4 ⟨rfl, h4⟩; have C3 := h4.step HR.out 3 (vx := .slice none 0 0) (C := []) (rdy_nil w4) (fun h => absurd rfl h) (by have := HRL.out; simp; omega) (by decide); rw [stp3] at C3; clear h4 C2)
            | (go_at_call 17; refine C3.mono ?_; rintro e w5 ⟨rfl, h5⟩; have H5 : Hid (PQ rep q (q + 1) q w1 r w5) := h5; clear h5 C3))
          refine ⟨⟨r, HRL.out, H5.out⟩, ?_⟩
          obtain ⟨vh5, F5, hpr5, -⟩ := H5.out
          rw [HME.out, hpr5.hld]
          exact HLT.out
end Go.Proofs.YtdakhiafagambaaDoor
