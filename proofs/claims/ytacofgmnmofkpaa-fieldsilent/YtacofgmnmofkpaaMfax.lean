import Derived.Test.YtacofgmnmofkpaaMfau
import Derived.Test.YtacofgmnmofkpaaMfav
namespace Go.Proofs.Ytacofgmnmofkpaa
set_option linter.unusedSimpArgs false
set_option linter.unusedVariables false
open Go.ChangeShapes Go.WideShapes Go.ChangeAt Go.RowKit Go.Pin Go.Fld
def DJ (a b : List (Nat × Obj)) : Prop := ∀ p ∈ a, ∀ q ∈ b, p.1 ≠ q.1
/-- a bank as boxes -/
structure Frz (B : Nat) (g : Nat) (es : Nat → List Int) (ns : Nat → Nat) (vs : Value) (ll : List (Int × Int)) (fp : List (Nat × Obj)) : Prop where
  sh : ∃ o rb, fp = (g, o) :: rb ∧ (∀ k, vs.ownBlock = some k → ∃ o', (k, o') ∈ rb) ∧ (∀ p ∈ rb, vs.ownBlock = some p.1)
  bk : ∀ W : World, (∀ p ∈ fp, W.heap[p.1]? = some p.2) → Bn g es ns vs W ∧ W.ownsRow B 36 2 vs ll.length (evC ll)
theorem SB.freeze {B : Nat} {w : World} {rv : Value} {lr : List (Int × Int)} {g : Nat} {es : Nat → List Int} {ns : Nat → Nat} {vs : Value} {ll : List (Int × Int)} {bx : List (Nat × Obj)} {W : World} (h : SB B w rv lr g es ns vs ll bx W) : ∃ fp, Frz B g es ns vs ll fp ∧ Ev B w rv lr (fp ++ bx) W ∧ DJ fp bx := by
  obtain ⟨o, rb, h1, h2, he⟩ := h.ev
  refine ⟨(g, o) :: rb, ⟨⟨o, rb, rfl, h1, h2⟩, fun W' hW => ?_⟩, he, fun p hp q hq => ?_⟩
  · have hg : W'.heap[g]? = W.heap[g]? := by rw [hW (g, o) (by simp), he.row (g := g) (x := o) (by simp)]
    refine ⟨h.bn.of_block hg, owns_of h.own (fun k hk => ?_)⟩
    obtain ⟨o', ho⟩ := h1 k hk
    rw [hW (k, o') (by simp [ho]), he.row (g := k) (x := o') (by simp [ho])]
  · rcases List.mem_cons.1 hp with rfl | hp
    · exact fun e => (h.dis q hq).1 e.symm
    · exact fun e => (h.dis q hq).2 (by rw [← e]; exact h2 p hp)
theorem thaw {B : Nat} {w : World} {rv : Value} {lr : List (Int × Int)} {g : Nat} {es : Nat → List Int} {ns : Nat → Nat} {vs : Value} {ll : List (Int × Int)} {fp bx : List (Nat × Obj)} {W : World} (hf : Frz B g es ns vs ll fp) (he : Ev B w rv lr (fp ++ bx) W) (hd : DJ fp bx) : SB B w rv lr g es ns vs ll bx W := by
  obtain ⟨o, rb, rfl, h1, h2⟩ := hf.sh
  obtain ⟨k1, k2⟩ := hf.bk W (fun p hp => he.row (by simp only [List.mem_append]; exact .inl hp))
  refine ⟨k1, k2, ⟨o, rb, h1, h2, he⟩, fun p hp => ⟨fun e => hd (g, o) (by simp) p hp e.symm, fun e => ?_⟩⟩
  obtain ⟨o', ho⟩ := h1 p.1 e
  exact hd (p.1, o') (by simp [ho]) p hp rfl
/-- a Recorder as boxes -/
theorem Ev.rfreeze {B : Nat} {w : World} {R : Nat} {lr : List (Int × Int)} {bx : List (Nat × Obj)} {W : World} (h : Ev B w (.pointer (some ⟨R, 0, none⟩)) lr bx W) (l : List (Int × Int)) :
    ∃ bl, Ev B w (.pointer none) l (bl ++ bx) W ∧ DJ bl bx ∧ ∀ W' b2 l', Ev B w (.pointer none) l' (bl ++ b2) W' → DJ bl b2 → Ev B w (.pointer (some ⟨R, 0, none⟩)) lr b2 W' := by
  obtain ⟨vr, h2, h3⟩ := h.recOf
  obtain ⟨bl, k1, k2⟩ := blk_list h2
  refine ⟨bl, ⟨h.old, h.le, fun p hp => ?_, fun p hp => ?_, .inl rfl⟩, fun p hp q hq e => h3 q hq (e ▸ (k2 p hp).1), fun W' b2 l' he hd => ?_⟩
  · rcases List.mem_append.1 hp with hp | hp
    · exact h2.ge _ (k2 p hp).1
    · exact h.ge p hp
  · rcases List.mem_append.1 hp with hp | hp
    · exact (k2 p hp).2
    · exact h.at' p hp
  · have hr : Rec B W' R vr lr := by
      have hR : ∀ k, Blk R vr k → W'.heap[k]? = W.heap[k]? := fun k hk => by
        obtain ⟨o, ho⟩ := k1 k hk
        rw [he.row (g := k) (x := o) (by simp [ho]), (k2 _ ho).2]
      exact ⟨h2.1, (hR R (.inl rfl)).trans h2.2.1, owns_of h2.2.2 (fun k hk => hR k (.inr hk))⟩
    refine ⟨he.old, he.le, fun p hp => he.ge p (by simp [hp]), fun p hp => he.at' p (by simp [hp]), .inr ⟨R, vr, rfl, hr, fun p hp hk => ?_⟩⟩
    obtain ⟨o, ho⟩ := k1 p.1 hk
    exact hd _ ho p hp rfl
theorem DJ.app {a b c : List (Nat × Obj)} (h1 : DJ a b) (h2 : DJ a c) : DJ a (b ++ c) := fun p hp q hq => by
  rcases List.mem_append.1 hq with hq | hq
  · exact h1 p hp q hq
  · exact h2 p hp q hq
theorem DJ.left {a b c : List (Nat × Obj)} (h : DJ a (b ++ c)) : DJ a b := fun p hp q hq => h p hp q (List.mem_append_left _ hq)
theorem DJ.right {a b c : List (Nat × Obj)} (h : DJ a (b ++ c)) : DJ a c := fun p hp q hq => h p hp q (List.mem_append_right _ hq)
theorem DJ.symm {a b : List (Nat × Obj)} (h : DJ a b) : DJ b a := fun p hp q hq e => h q hq p hp e.symm
/-- three banks and a Recorder -/
structure S3 (B : Nat) (w : World) (R : Nat) (lr : List (Int × Int)) (ga gb gc : Nat) (ea eb ec : Nat → List Int) (na nb' nc : Nat → Nat) (va vb vc : Value) (la lb lc : List (Int × Int)) (W : World) : Prop where
  st : ∃ fa fb fc, Frz B ga ea na va la fa ∧ Frz B gb eb nb' vb lb fb ∧ Frz B gc ec nc vc lc fc ∧ DJ fa fb ∧ DJ fa fc ∧ DJ fb fc ∧ Ev B w (.pointer (some ⟨R, 0, none⟩)) lr (fa ++ (fb ++ fc)) W
  ra : ∀ j, j < 8 → num (ea j) = na j
  rb : ∀ j, j < 8 → num (eb j) = nb' j
  rc : ∀ j, j < 8 → num (ec j) = nc j
section
variable {B : Nat} {w : World} {R : Nat} {lr : List (Int × Int)} {ga gb gc : Nat} {ea eb ec : Nat → List Int} {na nb' nc : Nat → Nat} {va vb vc : Value} {la lb lc : List (Int × Int)} {W : World}
theorem S3.old (h : S3 B w R lr ga gb gc ea eb ec na nb' nc va vb vc la lb lc W) : Below B w W := by obtain ⟨_, _, _, _, _, _, _, _, _, he⟩ := h.st; exact he.old
theorem S3.below (h : S3 B w R lr ga gb gc ea eb ec na nb' nc va vb vc la lb lc W) {W' : World} (hb : Below W.heap.size W W') : S3 B w R lr ga gb gc ea eb ec na nb' nc va vb vc la lb lc W' := by
  obtain ⟨fa, fb, fc, h1, h2, h3, h4, h5, h6, he⟩ := h.st
  exact ⟨⟨fa, fb, fc, h1, h2, h3, h4, h5, h6, he.below hb⟩, h.ra, h.rb, h.rc⟩
theorem S3.a (h : S3 B w R lr ga gb gc ea eb ec na nb' nc va vb vc la lb lc W) : Bn ga ea na va W ∧ W.ownsRow B 36 2 va la.length (evC la) := by
  obtain ⟨fa, fb, fc, h1, h2, h3, h4, h5, h6, he⟩ := h.st
  exact h1.bk W (fun p hp => he.row (by simp [hp]))
theorem S3.b (h : S3 B w R lr ga gb gc ea eb ec na nb' nc va vb vc la lb lc W) : Bn gb eb nb' vb W ∧ W.ownsRow B 36 2 vb lb.length (evC lb) := by
  obtain ⟨fa, fb, fc, h1, h2, h3, h4, h5, h6, he⟩ := h.st
  exact h2.bk W (fun p hp => he.row (by simp [hp]))
theorem S3.c (h : S3 B w R lr ga gb gc ea eb ec na nb' nc va vb vc la lb lc W) : Bn gc ec nc vc W ∧ W.ownsRow B 36 2 vc lc.length (evC lc) := by
  obtain ⟨fa, fb, fc, h1, h2, h3, h4, h5, h6, he⟩ := h.st
  exact h3.bk W (fun p hp => he.row (by simp [hp]))
theorem S3.recr (h : S3 B w R lr ga gb gc ea eb ec na nb' nc va vb vc la lb lc W) : ∃ vr, Rec B W R vr lr := by
  obtain ⟨fa, fb, fc, h1, h2, h3, h4, h5, h6, he⟩ := h.st
  obtain ⟨vr, h, _⟩ := he.recOf
  exact ⟨vr, h⟩
theorem S3.stepC (h : S3 B w R lr ga gb gc ea eb ec na nb' nc va vb vc la lb lc W) (q : Stp) (hq : q.ok) (hl : lr.length ≤ 900000) (hll : lc.length ≤ 900000) :
    Calls Try.prog 17 #[.pointer (some ⟨gc, 0, none⟩), .pointer (some ⟨R, 0, none⟩), .agg q.arr] W fun e w' => e = .returned (.tuple #[]) ∧ ∃ ec' vc', S3 B w R (lr ++ stL q.1) ga gb gc ea eb ec' na nb' (stN q nc) va vb vc' la lb (lc ++ stL q.1) w' := by
  obtain ⟨fa, fb, fc, h1, h2, h3, h4, h5, h6, he⟩ := h.st
  have hs := thaw h3 (bx := fa ++ fb) (he.sub (fun p hp => by simp only [List.mem_append] at hp ⊢; rcases hp with h | h | h <;> simp [h])) (h5.symm.app h6.symm)
  refine (step_any q hq hs hl hll h.rc).mono ?_
  rintro e w' ⟨rfl, es', vs', k1, k2⟩
  obtain ⟨fp, f1, f2, f3⟩ := k1.freeze
  exact ⟨rfl, es', vs', ⟨fa, fb, fp, h1, h2, f1, h4, f3.left.symm, f3.right.symm, f2.sub (fun p hp => by simp only [List.mem_append] at hp ⊢; rcases hp with h | h | h <;> simp [h])⟩, h.ra, h.rb, k2⟩
theorem S3.stepA (h : S3 B w R lr ga gb gc ea eb ec na nb' nc va vb vc la lb lc W) (q : Stp) (hq : q.ok) (hl : lr.length ≤ 900000) (hll : la.length ≤ 900000) :
    Calls Try.prog 17 #[.pointer (some ⟨ga, 0, none⟩), .pointer (some ⟨R, 0, none⟩), .agg q.arr] W fun e w' => e = .returned (.tuple #[]) ∧ ∃ ea' va', S3 B w R (lr ++ stL q.1) ga gb gc ea' eb ec (stN q na) nb' nc va' vb vc (la ++ stL q.1) lb lc w' := by
  obtain ⟨fa, fb, fc, h1, h2, h3, h4, h5, h6, he⟩ := h.st
  have hs := thaw h1 (bx := fb ++ fc) he (h4.app h5)
  refine (step_any q hq hs hl hll h.ra).mono ?_
  rintro e w' ⟨rfl, es', vs', k1, k2⟩
  obtain ⟨fp, f1, f2, f3⟩ := k1.freeze
  exact ⟨rfl, es', vs', ⟨fp, fb, fc, f1, h2, h3, f3.left, f3.right, h6, f2⟩, k2, h.rb, h.rc⟩
theorem S3.stepB (h : S3 B w R lr ga gb gc ea eb ec na nb' nc va vb vc la lb lc W) (q : Stp) (hq : q.ok) (hll : lb.length ≤ 900000) :
    Calls Try.prog 17 #[.pointer (some ⟨gb, 0, none⟩), .pointer none, .agg q.arr] W fun e w' => e = .returned (.tuple #[]) ∧ ∃ eb' vb', S3 B w R lr ga gb gc ea eb' ec na (stN q nb') nc va vb' vc la (lb ++ stL q.1) lc w' := by
  obtain ⟨fa, fb, fc, h1, h2, h3, h4, h5, h6, he⟩ := h.st
  obtain ⟨bl, g1, g2, g3⟩ := he.rfreeze []
  have hs := thaw h2 (bx := bl ++ (fa ++ fc)) (g1.sub (fun p hp => by simp only [List.mem_append] at hp ⊢; rcases hp with h | h | h | h <;> simp [h])) (DJ.app g2.right.left.symm (h4.symm.app h6))
  refine (step_any q hq hs (by simp) hll h.rb).mono ?_
  rintro e w' ⟨rfl, es', vs', k1, k2⟩
  obtain ⟨fp, f1, f2, f3⟩ := k1.freeze
  have hd : DJ bl (fa ++ (fp ++ fc)) := DJ.app g2.left (DJ.app f3.left.symm g2.right.right)
  exact ⟨rfl, es', vs', ⟨fa, fp, fc, h1, f1, h3, f3.right.left.symm, h5, f3.right.right, g3 w' _ _ (f2.sub (fun p hp => by simp only [List.mem_append] at hp ⊢; rcases hp with h | h | h | h <;> simp [h])) hd⟩, h.ra, k2, h.rc⟩
end
end Go.Proofs.Ytacofgmnmofkpaa
namespace Go.Proofs.Ytacofgmnmofkpaa
set_option linter.unusedSimpArgs false
set_option linter.unusedVariables false
open Go.ChangeShapes Go.WideShapes Go.ChangeAt Go.RowKit Go.Pin Go.Fld
theorem key_enc (n : Nat) : Key32 (bts n) := ⟨bts_len n, bts_bd n⟩
theorem enc_back (n : Nat) (hn : n < P) : nb (bts n) % 2 ^ 255 % P = n := by
  have h1 : n < 2 ^ 255 := Nat.lt_of_lt_of_le hn (by decide)
  rw [nb_bts n (Nat.lt_of_lt_of_le h1 (by decide)), Nat.mod_eq_of_lt h1, Nat.mod_eq_of_lt hn]
theorem frz_new (B g : Nat) : Frz B g (fun _ => [0, 0, 0, 0, 0]) (fun _ => 0) (.slice none 0 0) [] [(g, bxB)] :=
  ⟨⟨bxB, [], rfl, fun k hk => by simp [Value.ownBlock] at hk, by simp⟩, fun W hW => ⟨bn_new (hW (g, bxB) (by simp)), World.ownsRow_nil _ _ _ _⟩⟩
set_option maxRecDepth 100000 in
set_option maxHeartbeats 8000000 in
theorem silent_walk (v v2 : Value) (sc mo : List Stp) (w : World) (h : Scr w v sc) (h2 : Scr w v2 mo) :
    Calls Try.prog 6 #[v, v2] w fun e w' => e = .returned (.bool true) ∧ Below w.heap.size w w' := by
  obtain ⟨a, cp, rfl, hcp, h⟩ := h
  obtain ⟨a2, cp2, rfl, hcp2, h2⟩ := h2
  have HSC : Hid (sc = [] ∨ ∃ b o, a = some ⟨b, o, none⟩ ∧ b < w.heap.size ∧ ∀ i q, sc[i]? = some q → w.rangeAt b (o + i * 38) q.cells ∧ q.ok) := h
  have HMO : Hid (mo = [] ∨ ∃ b o, a2 = some ⟨b, o, none⟩ ∧ b < w.heap.size ∧ ∀ i q, mo[i]? = some q → w.rangeAt b (o + i * 38) q.cells ∧ q.ok) := h2
  have hzb := zero_bank
  have HK : Hid (∀ w, Calls Try.prog 19 #[] w fun e w' => e = .returned (.bool true) ∧ Below w.heap.size w w') := known_any
  clear h h2
  go_enter Try.func6, Try.ntmps6
  go_wp2_with fail
  refine (new_any _).mono ?_
  rintro e W1 ⟨rfl, hW1⟩
  have hE := ((((ev_nil' w).new bxR).new bxB).new bxB).new bxB
  simp only [size_alloc] at hE
  rw [show w.alloc bxR = W1 from hW1.symm] at hE
  have hs1 : W1.heap.size = w.heap.size + 1 := by rw [hW1]; simp
  obtain ⟨W4, hW4⟩ : ∃ W, ((W1.alloc (.cells bankZ 53)).alloc (.cells bankZ 53)).alloc (.cells bankZ 53) = W := ⟨_, rfl⟩
  rw [show ((W1.alloc bxB).alloc bxB).alloc bxB = W4 from hW4] at hE
  obtain ⟨R, hR⟩ : ∃ R, w.heap.size = R := ⟨_, rfl⟩
  obtain ⟨ga, hga⟩ : ∃ x, R + 1 = x := ⟨_, rfl⟩
  obtain ⟨gb, hgb⟩ : ∃ x, ga + 1 = x := ⟨_, rfl⟩
  obtain ⟨gc, hgc⟩ : ∃ x, gb + 1 = x := ⟨_, rfl⟩
  rw [hR] at hs1
  have hE' : Ev w.heap.size w (.pointer none) [] [(gc, bxB), (gb, bxB), (ga, bxB), (R, bxR)] W4 := by rw [← hgc, ← hgb, ← hga, ← hR]; exact hE
  have hM := hE'.sub (by' := [(ga, bxB)] ++ ([(gb, bxB)] ++ [(gc, bxB)])) (fun p hp => by simp at hp ⊢; rcases hp with h | h | h <;> simp [h])
  have hS := ev_switch hM.old hM.le (hE'.row (g := R) (x := bxR) (by simp)) (hE'.ge (R, bxR) (by simp)) hM.ge hM.at' (fun p hp => by simp at hp; rcases hp with rfl | rfl | rfl <;> simp only <;> omega)
  have X0 : Hid (∃ lr ec nc vc, lr.length ≤ 0 ∧ S3 w.heap.size w R lr ga gb gc (fun _ => [0, 0, 0, 0, 0]) (fun _ => [0, 0, 0, 0, 0]) ec (fun _ => 0) (fun _ => 0) nc (.slice none 0 0) (.slice none 0 0) vc [] [] lr W4) := ⟨_, _, _, _, Nat.le_refl _, ⟨⟨_, _, _, frz_new _ ga, frz_new _ gb, frz_new _ gc, by intro p hp q hq; simp at hp hq; subst hp; subst hq; simp only; omega, by intro p hp q hq; simp at hp hq; subst hp; subst hq; simp only; omega, by intro p hp q hq; simp at hp hq; subst hp; subst hq; simp only; omega, hS⟩, num_zeros, num_zeros, num_zeros⟩⟩
  clear hE hE' hM hS hW1
  try simp only [hR]
  go_wp2_with fail
  try simp only [hs1, hga, hgb, hgc]
  clear hzb hs1 hW4
  go_loopw [9] (fun i w' => ∃ k : Nat, k ≤ 400 ∧ i = .int .i64 k ∧ ∃ lr ec nc vc, lr.length ≤ k ∧ S3 w.heap.size w R lr ga gb gc (fun _ => [0, 0, 0, 0, 0]) (fun _ => [0, 0, 0, 0, 0]) ec (fun _ => 0) (fun _ => 0) nc (.slice none 0 0) (.slice none 0 0) vc [] [] lr w') (fun i _ => 400 - (intOf i).toNat)
  case atStart => exact ⟨0, by omega, rfl, X0.out⟩
  case round =>
    clear X0
    obtain ⟨k, hk, rfl, hB⟩ := hrel
    have HB : Hid (∃ lr ec nc vc, lr.length ≤ k ∧ S3 w.heap.size w R lr ga gb gc (fun _ => [0, 0, 0, 0, 0]) (fun _ => [0, 0, 0, 0, 0]) ec (fun _ => 0) (fun _ => 0) nc (.slice none 0 0) (.slice none 0 0) vc [] [] lr wr) := hB
    clear hB
    by_cases hgo : k < mo.length ∧ k < 400
    · obtain ⟨g1, g2⟩ := hgo
      have g2' : (k : Int) < 400 := by omega
      obtain ⟨q, hq⟩ : ∃ q, mo[k]? = some q := ⟨_, List.getElem?_eq_getElem g1⟩
      obtain ⟨b, o, rfl, hb, hall⟩ := HMO.out.resolve_left (fun e => by subst e; simp at g1)
      obtain ⟨h1, h2⟩ := hall k q hq
      obtain ⟨lr, ec, nc, vc, hl, hbw⟩ := HB.out
      have HRG : Hid (wr.rangeAt b (o + k * 38) q.cells) := range_below hbw.old hb h1
      have HI : Hid ((Try.prog.info? 60).map (·.size) = some q.cells.length) := infoStep' h2
      have HSTP : Hid (Calls Try.prog 17 #[.pointer (some ⟨gc, 0, none⟩), .pointer (some ⟨R, 0, none⟩), .agg q.cells.toArray] wr fun e w' => e = .returned (.tuple #[]) ∧ ∃ lr ec nc vc, lr.length ≤ k + 1 ∧ S3 w.heap.size w R lr ga gb gc (fun _ => [0, 0, 0, 0, 0]) (fun _ => [0, 0, 0, 0, 0]) ec (fun _ => 0) (fun _ => 0) nc (.slice none 0 0) (.slice none 0 0) vc [] [] lr w') := by
        refine (hbw.stepC q h2 (by omega) (by omega)).mono ?_
        rintro e w' ⟨he, es', vs', h3⟩
        exact ⟨he, _, _, _, _, by rw [List.length_append]; have := stL_len q.1; omega, h3⟩
      clear hall h1 h2 hbw hl hq HB
      generalize q.cells = QC at *
      go_wp2_with (with_reducible refine at_list ?_; refine wpList_load_mid rfl 60 (.tmp 35) rfl b (o + k * 38) rfl QC _ HRG.out Try.underlying60 rfl HI.out ?_)
      refine HSTP.out.mono ?_
      rintro e W5 ⟨rfl, h5⟩
      have H5 : Hid (∃ lr ec nc vc, lr.length ≤ k + 1 ∧ S3 w.heap.size w R lr ga gb gc (fun _ => [0, 0, 0, 0, 0]) (fun _ => [0, 0, 0, 0, 0]) ec (fun _ => 0) (fun _ => 0) nc (.slice none 0 0) (.slice none 0 0) vc [] [] lr W5) := h5
      clear h5 HSTP
      go_wp2
      go_roundw
      case rel => exact ⟨k + 1, by omega, by go_num, H5.out⟩
      case measure => simp [intOf]; omega
    · have hex : ¬ k < mo.length ∨ (k < mo.length ∧ ¬ (k : Int) < 400) := by omega
      clear hgo
      obtain ⟨lr, ec, nc, vc, hl, hbw⟩ := HB.out
      obtain ⟨vr, hrec⟩ := hbw.recr
      have CT : Hid (Calls Try.prog 13 #[.pointer (some ⟨R, 0, none⟩)] wr fun e w' => e = .returned (.int .i64 lr.length) ∧ w' = wr) := total_any _ vr lr wr hrec.opt
      have X2 : Hid (S3 w.heap.size w R lr ga gb gc (fun _ => [0, 0, 0, 0, 0]) (fun _ => [0, 0, 0, 0, 0]) ec (fun _ => 0) (fun _ => 0) nc (.slice none 0 0) (.slice none 0 0) vc [] [] lr wr) := hbw
      have HLR : Hid (lr.length ≤ 400) := by show lr.length ≤ 400; omega
      clear hbw hrec hl HB
      rcases hex with g1 | ⟨g1, g2⟩
      all_goals (
        go_wp2_with fail
        refine CT.out.mono ?_
        rintro e W5 ⟨rfl, hw⟩
        obtain rfl := hw
        clear CT
        go_wp2_with fail
        go_loopw [11] (fun i w' => ∃ k : Nat, k ≤ 400 ∧ i = .int .i64 k ∧ ∃ d ea eb na va vb, d.length ≤ k ∧ S3 w.heap.size w R (lr ++ d) ga gb gc ea eb ec na na nc va vb vc d d lr w') (fun i _ => 400 - (intOf i).toNat)
        case atStart => exact ⟨0, by omega, rfl, [], _, _, _, _, _, Nat.le_refl _, by rw [List.append_nil]; exact X2.out⟩
        case round =>
          clear X2
          obtain ⟨k2, hk2, rfl, hB⟩ := hrel
          have HB : Hid (∃ d ea eb na va vb, d.length ≤ k2 ∧ S3 w.heap.size w R (lr ++ d) ga gb gc ea eb ec na na nc va vb vc d d lr wr) := hB
          clear hB
          by_cases hgo : k2 < sc.length ∧ k2 < 400
          · obtain ⟨g1, g2⟩ := hgo
            have g2' : (k2 : Int) < 400 := by omega
            obtain ⟨q, hq⟩ : ∃ q, sc[k2]? = some q := ⟨_, List.getElem?_eq_getElem g1⟩
            obtain ⟨b, o, rfl, hb, hall⟩ := HSC.out.resolve_left (fun e => by subst e; simp at g1)
            obtain ⟨h1, h2⟩ := hall k2 q hq
            obtain ⟨d, ea, eb, na, va, vb, hl, hbw⟩ := HB.out
            have hlr := HLR.out
            have HRG : Hid (wr.rangeAt b (o + k2 * 38) q.cells) := range_below hbw.old hb h1
            have HI : Hid ((Try.prog.info? 60).map (·.size) = some q.cells.length) := infoStep' h2
            have HST1 : Hid (Calls Try.prog 17 #[.pointer (some ⟨ga, 0, none⟩), .pointer (some ⟨R, 0, none⟩), .agg q.cells.toArray] wr fun e w' => e = .returned (.tuple #[]) ∧ ∃ ea' va', S3 w.heap.size w R (lr ++ d ++ stL q.1) ga gb gc ea' eb ec (stN q na) na nc va' vb vc (d ++ stL q.1) d lr w') := hbw.stepA q h2 (by rw [List.length_append]; omega) (by omega)
            have HST2 : Hid (∀ W ea' va', S3 w.heap.size w R (lr ++ d ++ stL q.1) ga gb gc ea' eb ec (stN q na) na nc va' vb vc (d ++ stL q.1) d lr W → W.rangeAt b (o + k2 * 38) q.cells ∧ Calls Try.prog 17 #[.pointer (some ⟨gb, 0, none⟩), .pointer none, .agg q.cells.toArray] W fun e w' => e = .returned (.tuple #[]) ∧ ∃ d ea eb na va vb, d.length ≤ k2 + 1 ∧ S3 w.heap.size w R (lr ++ d) ga gb gc ea eb ec na na nc va vb vc d d lr w') := fun W ea' va' hW => ⟨range_below hW.old hb h1, by
              refine (hW.stepB q h2 (by omega)).mono ?_
              rintro e w' ⟨he, es', vs', h3⟩
              exact ⟨he, d ++ stL q.1, _, _, _, _, _, by rw [List.length_append]; have := stL_len q.1; omega, by rw [← List.append_assoc]; exact h3⟩⟩
            clear hall h1 h2 hbw hl hq HB hlr
            generalize q.cells = QC at *
            go_wp2_with (with_reducible refine at_list ?_; refine wpList_load_mid rfl 60 (.tmp 54) rfl b (o + k2 * 38) rfl QC _ HRG.out Try.underlying60 rfl HI.out ?_)
            refine HST1.out.mono ?_
            rintro e W6 ⟨rfl, ea', va', h6⟩
            obtain ⟨r6, c6⟩ := HST2.out W6 ea' va' h6
            have RG6 : Hid (W6.rangeAt b (o + k2 * 38) QC) := r6
            have C6 : Hid (Calls Try.prog 17 #[.pointer (some ⟨gb, 0, none⟩), .pointer none, .agg QC.toArray] W6 fun e w' => e = .returned (.tuple #[]) ∧ ∃ d ea eb na va vb, d.length ≤ k2 + 1 ∧ S3 w.heap.size w R (lr ++ d) ga gb gc ea eb ec na na nc va vb vc d d lr w') := c6
            clear HST1 HST2 h6 r6 c6
            go_wp2_with (with_reducible refine at_list ?_; refine wpList_load_mid rfl 60 (.tmp 60) rfl b (o + k2 * 38) rfl QC _ RG6.out Try.underlying60 rfl HI.out ?_)
            refine C6.out.mono ?_
            rintro e W7 ⟨rfl, h7⟩
            have H7 : Hid (∃ d ea eb na va vb, d.length ≤ k2 + 1 ∧ S3 w.heap.size w R (lr ++ d) ga gb gc ea eb ec na na nc va vb vc d d lr W7) := h7
            clear h7 C6
            go_wp2
            go_roundw
            case rel => exact ⟨k2 + 1, by omega, by go_num, H7.out⟩
            case measure => simp [intOf]; omega
          · have hex : ¬ k2 < sc.length ∨ (k2 < sc.length ∧ ¬ (k2 : Int) < 400) := by omega
            clear hgo
            obtain ⟨d, ea, eb, na, va, vb, hl, hbw⟩ := HB.out
            obtain ⟨vr, hrec⟩ := hbw.recr
            have CT : Hid (Calls Try.prog 13 #[.pointer (some ⟨R, 0, none⟩)] wr fun e w' => e = .returned (.int .i64 (lr ++ d).length) ∧ w' = wr) := total_any _ vr (lr ++ d) wr hrec.opt
            have X3 : Hid (S3 w.heap.size w R (lr ++ d) ga gb gc ea eb ec na na nc va vb vc d d lr wr) := hbw
            have HLD : Hid (d.length ≤ 400) := by show d.length ≤ 400; omega
            clear hbw hrec hl HB
            rcases hex with g1 | ⟨g1, g2⟩
            all_goals (
              go_wp2_with fail
              refine CT.out.mono ?_
              rintro e W8 ⟨rfl, hw⟩
              obtain rfl := hw
              clear CT
              go_wp2_with fail
              go_loopw [13] (fun i w' => ∃ k : Nat, k ≤ 8 ∧ i = .int .i64 k ∧ S3 w.heap.size w R (lr ++ d) ga gb gc ea eb ec na na nc va vb vc d d lr w') (fun i _ => 8 - (intOf i).toNat)
              case atStart => exact ⟨0, by omega, rfl, X3.out⟩
              case round =>
                clear X3
                obtain ⟨i, hi, rfl, hB⟩ := hrel
                have HB : Hid (S3 w.heap.size w R (lr ++ d) ga gb gc ea eb ec na na nc va vb vc d d lr wr) := hB
                clear hB
                by_cases hlt : i < 8
                · have hlt' : (i : Int) < 8 := by omega
                  have hnum := (HB.out.ra i hlt).trans (HB.out.rb i hlt).symm
                  have lx := HB.out.a.1.lim i hlt
                  have ly := HB.out.b.1.lim i hlt
                  have RA : Hid (∀ Y, Below wr.heap.size wr Y → Y.rangeAt ga (i * 5) ((ea i).map (Value.int .u64))) := fun Y hY => (HB.out.below hY).a.1.rangeE hlt
                  have RB : Hid (∀ Y, Below wr.heap.size wr Y → Y.rangeAt gb (i * 5) ((eb i).map (Value.int .u64))) := fun Y hY => (HB.out.below hY).b.1.rangeE hlt
                  generalize ea i = x at *
                  generalize eb i = y at *
                  have L_x : Hid (x.length = 5) := lx.len
                  have L_y : Hid (y.length = 5) := ly.len
                  obtain ⟨z0, z1, z2, z3, z4, lz, nz, CD0⟩ := dec_f (key_enc (num x))
                  have nz' : num [z0, z1, z2, z3, z4] = num y := by rw [nz, enc_back _ (num_lt x), hnum]
                  obtain ⟨kz, hkz⟩ : ∃ kz, bts (num x) = kz := ⟨_, rfl⟩
                  have CE : Hid (∀ w, Calls Try.prog 22 #[.agg (VI .u64 x)] w fun e w' => e = .returned (.agg (VI .u8 kz)) ∧ Below w.heap.size w w') := by rw [← hkz]; exact fun w => enc_any x lx w
                  obtain ⟨z, hz⟩ : ∃ z, [z0, z1, z2, z3, z4] = z := ⟨_, rfl⟩
                  have CD : Hid (∀ w, Calls Try.prog 21 #[.agg (VI .u8 kz)] w fun e w' => e = .returned (.agg (VI .u64 z)) ∧ Below w.heap.size w w') := by rw [← hkz, ← hz]; exact CD0
                  have C1 : Hid (∀ w, Calls Try.prog 20 #[.agg (VI .u64 x), .agg (VI .u64 y)] w fun e w' => e = .returned (.bool true) ∧ Below w.heap.size w w') := fun w => (same_any x y lx ly w).mono fun e w' hh => ⟨by rw [hh.1, decide_eq_true hnum], hh.2⟩
                  have C2 : Hid (∀ w, Calls Try.prog 20 #[.agg (VI .u64 z), .agg (VI .u64 y)] w fun e w' => e = .returned (.bool true) ∧ Below w.heap.size w w') := fun w => (same_any z y (hz ▸ lz) ly w).mono fun e w' hh => ⟨by rw [hh.1, decide_eq_true (hz ▸ nz')], hh.2⟩
                  clear CD0 lx ly lz nz nz' hkz hz hnum
                  go_wp2_with fail
                  refine wp_region_quiet_in (C := fun Y => Below wr.heap.size wr Y) (by kernel_rfl) (by kernel_rfl) ((Below.refl _ _).drew) ?_
                  refine wpQuiet_step (fun K hK => ?_)
                  go_simp
                  first | refine hK _ ?_ | refine ⟨_, fun _ _ => rfl, hK _ ?_⟩
                  clear hK K
                  refine wpQuiet_step (fun K hK => ?_)
                  go_simp
                  first | refine hK _ ?_ | refine ⟨_, fun _ _ => rfl, hK _ ?_⟩
                  clear hK K
                  refine wpQuiet_step (fun K hK => ?_)
                  go_simp
                  first | refine hK _ ?_ | refine ⟨_, fun _ _ => rfl, hK _ ?_⟩
                  clear hK K
                  refine wpQuiet_step (fun K hK => ?_)
                  go_simp
                  first | refine hK _ ?_ | refine ⟨_, fun _ _ => rfl, hK _ ?_⟩
                  clear hK K
                  refine wpQuiet_step (fun K hK => ?_)
                  go_simp
                  first | refine hK _ ?_ | refine ⟨_, fun _ _ => rfl, hK _ ?_⟩
                  clear hK K
                  refine wpQuiet_step (fun K hK => ?_)
                  refine if_pos_mpr (by kernel_rfl) ⟨.agg (VI .u64 x), fun Y hY => quietAt_load_mid 47 (.tmp 73) rfl ga (i * 5) rfl (x.map (Value.int .u64)) _ (RA.out Y hY) Try.underlying47 rfl (by rw [List.length_map, L_x.out]; kernel_rfl), hK _ ?_⟩
                  clear hK K
                  try simp only [Act.put, List.getElem_toArray, List.getElem_cons_succ, List.getElem_cons_zero, List.getElem?_toArray, List.getElem?_cons_succ, List.getElem?_cons_zero, List.setIfInBounds_toArray, List.set_cons_zero, List.set_cons_succ]
                  refine wpQuiet_step (fun K hK => ?_)
                  go_simp
                  first | refine hK _ ?_ | refine ⟨_, fun _ _ => rfl, hK _ ?_⟩
                  clear hK K
                  refine wpQuiet_step (fun K hK => ?_)
                  go_simp
                  first | refine hK _ ?_ | refine ⟨_, fun _ _ => rfl, hK _ ?_⟩
                  clear hK K
                  refine wpQuiet_step (fun K hK => ?_)
                  go_simp
                  first | refine hK _ ?_ | refine ⟨_, fun _ _ => rfl, hK _ ?_⟩
                  clear hK K
                  refine wpQuiet_step (fun K hK => ?_)
                  go_simp
                  first | refine hK _ ?_ | refine ⟨_, fun _ _ => rfl, hK _ ?_⟩
                  clear hK K
                  refine wpQuiet_step (fun K hK => ?_)
                  go_simp
                  first | refine hK _ ?_ | refine ⟨_, fun _ _ => rfl, hK _ ?_⟩
                  clear hK K
                  refine wpQuiet_step (fun K hK => ?_)
                  refine if_pos_mpr (by kernel_rfl) ⟨.agg (VI .u64 y), fun Y hY => quietAt_load_mid 47 (.tmp 79) rfl gb (i * 5) rfl (y.map (Value.int .u64)) _ (RB.out Y hY) Try.underlying47 rfl (by rw [List.length_map, L_y.out]; kernel_rfl), hK _ ?_⟩
                  clear hK K
                  try simp only [Act.put, List.getElem_toArray, List.getElem_cons_succ, List.getElem_cons_zero, List.getElem?_toArray, List.getElem?_cons_succ, List.getElem?_cons_zero, List.setIfInBounds_toArray, List.set_cons_zero, List.set_cons_succ]
                  refine wpQuiet_step (fun K hK => ?_)
                  refine if_pos_mpr (by kernel_rfl) ⟨.bool true, fun Y hY => ?_, hK _ ?_⟩
                  · go_simp
                    exact (C1.out Y).mono fun e w' hh => ⟨hh.1, hY.trans (hh.2.mono hY.size)⟩
                  clear hK K
                  try simp only [Act.put, List.getElem_toArray, List.getElem_cons_succ, List.getElem_cons_zero, List.getElem?_toArray, List.getElem?_cons_succ, List.getElem?_cons_zero, List.setIfInBounds_toArray, List.set_cons_zero, List.set_cons_succ]
                  refine wpQuiet_step (fun K hK => ?_)
                  go_simp
                  first | refine hK _ ?_ | refine ⟨_, fun _ _ => rfl, hK _ ?_⟩
                  clear hK K
                  refine wpQuiet_step (fun K hK => ?_)
                  go_simp
                  first | refine hK _ ?_ | refine ⟨_, fun _ _ => rfl, hK _ ?_⟩
                  clear hK K
                  refine wpQuiet_step (fun K hK => ?_)
                  go_simp
                  first | refine hK _ ?_ | refine ⟨_, fun _ _ => rfl, hK _ ?_⟩
                  clear hK K
                  refine wpQuiet_step (fun K hK => ?_)
                  go_simp
                  first | refine hK _ ?_ | refine ⟨_, fun _ _ => rfl, hK _ ?_⟩
                  clear hK K
                  refine wpQuiet_step (fun K hK => ?_)
                  go_simp
                  first | refine hK _ ?_ | refine ⟨_, fun _ _ => rfl, hK _ ?_⟩
                  clear hK K
                  refine wpQuiet_step (fun K hK => ?_)
                  go_simp
                  first | refine hK _ ?_ | refine ⟨_, fun _ _ => rfl, hK _ ?_⟩
                  clear hK K
                  refine wpQuiet_step (fun K hK => ?_)
                  go_simp
                  first | refine hK _ ?_ | refine ⟨_, fun _ _ => rfl, hK _ ?_⟩
                  clear hK K
                  refine wpQuiet_step (fun K hK => ?_)
                  refine if_pos_mpr (by kernel_rfl) ⟨.agg (VI .u64 x), fun Y hY => quietAt_load_mid 47 (.tmp 88) rfl ga (i * 5) rfl (x.map (Value.int .u64)) _ (RA.out Y hY) Try.underlying47 rfl (by rw [List.length_map, L_x.out]; kernel_rfl), hK _ ?_⟩
                  clear hK K
                  try simp only [Act.put, List.getElem_toArray, List.getElem_cons_succ, List.getElem_cons_zero, List.getElem?_toArray, List.getElem?_cons_succ, List.getElem?_cons_zero, List.setIfInBounds_toArray, List.set_cons_zero, List.set_cons_succ]
                  refine wpQuiet_step (fun K hK => ?_)
                  refine if_pos_mpr (by kernel_rfl) ⟨.agg (VI .u8 kz), fun Y hY => ?_, hK _ ?_⟩
                  · go_simp
                    exact (CE.out Y).mono fun e w' hh => ⟨hh.1, hY.trans (hh.2.mono hY.size)⟩
                  clear hK K
                  try simp only [Act.put, List.getElem_toArray, List.getElem_cons_succ, List.getElem_cons_zero, List.getElem?_toArray, List.getElem?_cons_succ, List.getElem?_cons_zero, List.setIfInBounds_toArray, List.set_cons_zero, List.set_cons_succ]
                  refine wpQuiet_step (fun K hK => ?_)
                  refine if_pos_mpr (by kernel_rfl) ⟨.agg (VI .u64 z), fun Y hY => ?_, hK _ ?_⟩
                  · go_simp
                    exact (CD.out Y).mono fun e w' hh => ⟨hh.1, hY.trans (hh.2.mono hY.size)⟩
                  clear hK K
                  try simp only [Act.put, List.getElem_toArray, List.getElem_cons_succ, List.getElem_cons_zero, List.getElem?_toArray, List.getElem?_cons_succ, List.getElem?_cons_zero, List.setIfInBounds_toArray, List.set_cons_zero, List.set_cons_succ]
                  refine wpQuiet_step (fun K hK => ?_)
                  go_simp
                  first | refine hK _ ?_ | refine ⟨_, fun _ _ => rfl, hK _ ?_⟩
                  clear hK K
                  refine wpQuiet_step (fun K hK => ?_)
                  go_simp
                  first | refine hK _ ?_ | refine ⟨_, fun _ _ => rfl, hK _ ?_⟩
                  clear hK K
                  refine wpQuiet_step (fun K hK => ?_)
                  go_simp
                  first | refine hK _ ?_ | refine ⟨_, fun _ _ => rfl, hK _ ?_⟩
                  clear hK K
                  refine wpQuiet_step (fun K hK => ?_)
                  go_simp
                  first | refine hK _ ?_ | refine ⟨_, fun _ _ => rfl, hK _ ?_⟩
                  clear hK K
                  refine wpQuiet_step (fun K hK => ?_)
                  go_simp
                  first | refine hK _ ?_ | refine ⟨_, fun _ _ => rfl, hK _ ?_⟩
                  clear hK K
                  refine wpQuiet_step (fun K hK => ?_)
                  refine if_pos_mpr (by kernel_rfl) ⟨.agg (VI .u64 y), fun Y hY => quietAt_load_mid 47 (.tmp 96) rfl gb (i * 5) rfl (y.map (Value.int .u64)) _ (RB.out Y hY) Try.underlying47 rfl (by rw [List.length_map, L_y.out]; kernel_rfl), hK _ ?_⟩
                  clear hK K
                  try simp only [Act.put, List.getElem_toArray, List.getElem_cons_succ, List.getElem_cons_zero, List.getElem?_toArray, List.getElem?_cons_succ, List.getElem?_cons_zero, List.setIfInBounds_toArray, List.set_cons_zero, List.set_cons_succ]
                  refine wpQuiet_step (fun K hK => ?_)
                  refine if_pos_mpr (by kernel_rfl) ⟨.bool true, fun Y hY => ?_, hK _ ?_⟩
                  · go_simp
                    exact (C2.out Y).mono fun e w' hh => ⟨hh.1, hY.trans (hh.2.mono hY.size)⟩
                  clear hK K
                  try simp only [Act.put, List.getElem_toArray, List.getElem_cons_succ, List.getElem_cons_zero, List.getElem?_toArray, List.getElem?_cons_succ, List.getElem?_cons_zero, List.setIfInBounds_toArray, List.set_cons_zero, List.set_cons_succ]
                  refine wpQuiet_step (fun K hK => ?_)
                  go_simp
                  first | refine hK _ ?_ | refine ⟨_, fun _ _ => rfl, hK _ ?_⟩
                  clear hK K
                  refine wpQuiet_step (fun K hK => ?_)
                  go_simp
                  first | refine hK _ ?_ | refine ⟨_, fun _ _ => rfl, hK _ ?_⟩
                  clear hK K
                  refine wpQuiet_nil ?_
                  intro W9 h9
                  have H9 : Hid (S3 w.heap.size w R (lr ++ d) ga gb gc ea eb ec na na nc va vb vc d d lr W9) := HB.out.below h9
                  clear h9 HB RA RB CE CD C1 C2
                  go_wp2
                  go_roundw
                  case rel => exact ⟨i + 1, by omega, by go_num, H9.out⟩
                  case measure => simp [intOf]; omega
                · have hn8 : ¬ (i : Int) < 8 := by omega
                  obtain ⟨_, sa, sb, esa, _, _⟩ := sl_of_owns HB.out.a.2
                  obtain ⟨_, ta, tb, esc, _, _⟩ := sl_of_owns HB.out.c.2
                  have ca : wr.cell? ⟨ga, 168, none⟩ = some (.slice sa d.length sb) := HB.out.a.1.l.trans (by rw [esa])
                  have cc : wr.cell? ⟨gc, 168, none⟩ = some (.slice ta lr.length tb) := HB.out.c.1.l.trans (by rw [esc])
                  obtain ⟨vr, hrec⟩ := HB.out.recr
                  have CT : Hid (Calls Try.prog 13 #[.pointer (some ⟨R, 0, none⟩)] wr fun e w' => e = .returned (.int .i64 (lr ++ d).length) ∧ w' = wr) := total_any _ vr (lr ++ d) wr hrec.opt
                  have HO : Hid (Below w.heap.size w wr) := HB.out.old
                  have hlr := HLR.out
                  have hld := HLD.out
                  have hlen : (lr ++ d).length = lr.length + d.length := List.length_append
                  obtain ⟨tot, htot⟩ : ∃ t, (lr ++ d).length = t := ⟨_, rfl⟩
                  rw [htot] at CT hlen
                  try rw [htot]
                  have hadd : (lr.length : Int) + (d.length : Int) = (tot : Int) := by omega
                  clear hrec HB esa esc hlt hlen
                  go_wp2_with fail
                  refine CT.out.mono ?_
                  rintro e W9 ⟨rfl, hw⟩
                  obtain rfl := hw
                  clear CT ca cc
                  go_wp2_with fail
                  refine (HK.out _).mono ?_
                  rintro e W10 ⟨rfl, h10⟩
                  have H10 : Hid (Below w.heap.size w W10) := HO.out.trans (h10.mono HO.out.size)
                  clear h10
                  go_wp2
                  go_ret
                  exact ⟨rfl, H10.out⟩))
end Go.Proofs.Ytacofgmnmofkpaa
