import Derived.Test.YtdakhiafagambaaDoorFrF
import Derived.Lib.SlBytesConst
import Derived.Laws.BytesArg
/- stage 20: known -/
namespace Go.Proofs.YtdakhiafagambaaDoor
set_option linter.unusedSimpArgs false
set_option linter.unusedVariables false
open Go.ChangeShapes Go.WideShapes Go.ChangeAt Go.RowKit Go.Pin
theorem nx_a : nxt [0, 2, 97] = none := by decide
theorem nx_b : nxt [0, 2, 97, 98, 0] = some ([97, 98], [0]) := by decide
theorem rd_lit (w : World) (M : List Int) (cs : Array Value) (hc : cs = VI .u8 M) (n : Nat) (hn : M.length = n) (h : n ≤ 1000) (fr : Nat × Nat) : RdB (w.alloc (.cells cs 5 fr)) (.slice (some ⟨w.heap.size, 0, none⟩) n n) M := by
  subst hc
  have := row_rd (W := w.alloc (.cells (VI .u8 M) 5 fr)) (M := M) (o := 0) (n := n) (cap := n) (heap_alloc_new w _) (by omega) (Nat.le_refl _) (by omega)
  simpa [← hn] using this
theorem big_rd (w : World) (N : Nat) (hN : N ≤ 100000) : RdB (w.alloc (.cells (VI .u8 (List.replicate N 0)) 5)) (.slice (some ⟨w.heap.size, 0, none⟩) N N) (List.replicate N 0) := by
  have := row_rd (W := w.alloc (.cells (VI .u8 (List.replicate N 0)) 5)) (M := List.replicate N 0) (o := 0) (n := N) (cap := N) (heap_alloc_new w _) (by rw [List.length_replicate]; omega) (Nat.le_refl _) (by omega)
  rw [List.drop_zero, List.take_of_length_le (by rw [List.length_replicate]; exact Nat.le_refl _)] at this
  exact this
theorem str_ab {w : World} {a : Option Addr} {k : Nat} (h : RdB w (.slice a 2 k) [97, 98]) : (convert 22 9 (.slice a 2 k)).run Tryd.prog w = .ok (.string ⟨#[97, 98]⟩) w := by
  obtain ⟨-, -, hat⟩ := h.at
  obtain ⟨b, o, rfl, h0⟩ := hat 0 (by decide)
  obtain ⟨b', o', e, h1⟩ := hat 1 (by decide)
  injection e with e
  injection e with e1 e2
  subst e1 e2
  have := run_convert_bytes_arg (P := Tryd.prog) w 22 5 Tryd.underlying22 Tryd.underlying5 b o 2 k [97, 98] rfl (fun i hi => by
    match i, hi with
    | 0, _ => exact h0 w (Below.refl _ _)
    | 1, _ => exact h1 w (Below.refl _ _)) 9 Tryd.underlying9
  rw [this]
  rfl
/-- a Reader, its memory from g on, made since w1 -/
def RS (rep : Nat → List Int → List Nat → World → Prop) (g : Nat) (w1 : World) (H : List Int) (Y : World) : Prop := Below g w1 Y ∧ g ≤ Y.heap.size ∧ ∃ F, rep g H F Y ∧ ∀ k ∈ F, g ≤ k
theorem RS.below {rep : Nat → List Int → List Nat → World → Prop} {g : Nat} {w1 Y Y' : World} {H : List Int} (hR : RdrC rep) (h : RS rep g w1 H Y) (hb : Below Y.heap.size Y Y') : RS rep g w1 H Y' := by
  obtain ⟨h1, h2, F, h3, h4⟩ := h
  exact ⟨h1.trans (hb.mono h2), Nat.le_trans h2 hb.size, F, hR.keep h3 (fun k hk => hb.block k (hR.lt h3 k hk)) hb.size, h4⟩
theorem RS.feed {rep : Nat → List Int → List Nat → World → Prop} {g : Nat} {w1 Y : World} {H C : List Int} {v : Value} (hR : RdrC rep) (h : RS rep g w1 H Y) (hv : RdB Y v C) (hn : ∀ F, rep g H F Y → (∀ k ∈ F, g ≤ k) → ∀ k, v.ownBlock = some k → k ∉ F) (hl : H.length + C.length ≤ 1000000) :
    Calls Tryd.prog 19 #[.pointer (some ⟨g, 0, none⟩), v] Y fun e w' => e = .returned (.tuple #[]) ∧ RS rep g w1 (H ++ C) w' := by
  obtain ⟨h1, h2, F, h3, h4⟩ := h
  refine (hR.feed h3 hv (hn F h3 h4) hl).mono ?_
  rintro e w' ⟨he, hc, F', h5, h6⟩
  exact ⟨he, hc.below h1 h4 h2, Nat.le_trans h2 hc.size, F', h5, fun k hk => by rcases h6 k hk with h | h; exact h4 k h; omega⟩
/-- a literal is fed -/
theorem RS.feedL {rep : Nat → List Int → List Nat → World → Prop} {g : Nat} {w1 Y : World} {H : List Int} (h : RS rep g w1 H Y) (hR : RdrC rep) (C : List Int) (cs : Array Value) (hc : cs = VI .u8 C) (n : Nat) (hn : C.length = n) (h1 : n ≤ 1000) (hl : H.length + n ≤ 1000000) :
    Calls Tryd.prog 19 #[.pointer (some ⟨g, 0, none⟩), .slice (some ⟨Y.heap.size, 0, none⟩) n n] (Y.alloc (.cells cs 5)) fun e w' => e = .returned (.tuple #[]) ∧ RS rep g w1 (H ++ C) w' := by
  have hb : Below Y.heap.size Y (Y.alloc (.cells cs 5)) := (Below.refl _ _).alloc (Nat.le_refl _) _
  obtain ⟨h2, h3, F, h4, h5⟩ := h
  have hk := hR.keep h4 (fun k hk => hb.block k (hR.lt h4 k hk)) hb.size
  refine (hR.feed hk (rd_lit Y C cs hc n hn h1 (0, 0)) (fun k e hm => ?_) (by omega)).mono ?_
  · have e' : some Y.heap.size = some k := e
    injection e' with e'
    have := hR.lt h4 k hm
    omega
  · rintro e w' ⟨he, hcg, F', h6, h7⟩
    have h3' : g ≤ (Y.alloc (.cells cs 5)).heap.size := Nat.le_trans h3 hb.size
    exact ⟨he, hcg.below (h2.trans (hb.mono h3)) h5 h3', Nat.le_trans h3' hcg.size, F', h6, fun k hk => by rcases h7 k hk with h | h; exact h5 k h; omega⟩
theorem RS.next {rep : Nat → List Int → List Nat → World → Prop} {g : Nat} {w1 Y : World} {H : List Int} (h : RS rep g w1 H Y) (hR : RdrC rep) (hB : Byb H) (hl : H.length ≤ 1000000) :
    Calls Tryd.prog 20 #[.pointer (some ⟨g, 0, none⟩)] Y fun e w' => ∃ v b, e = .returned (.tuple #[v, .bool b]) ∧ ((nxt H = none → b = false ∧ v = .slice none 0 0 ∧ RS rep g w1 H w') ∧ (∀ m r, nxt H = some (m, r) → b = true ∧ w'.ownsRow Y.heap.size 5 1 v m.length (m.map (Value.int .u8)) ∧ RS rep g w1 r w' ∧ True)) := by
  obtain ⟨h1, h2, F, h3, h4⟩ := h
  refine (hR.next h3 hB hl).mono ?_
  rintro e w' ⟨v, b, he, hc, F', h5, h6, h7⟩
  have hF : ∀ k ∈ F', g ≤ k := fun k hk => by rcases h5 k hk with h | h; exact h4 k h; omega
  refine ⟨v, b, he, fun hn => ?_, fun m r hn => ?_⟩
  · obtain ⟨a1, a2, a3⟩ := h6 hn
    exact ⟨a1, a2, hc.below h1 h4 h2, Nat.le_trans h2 hc.size, F', a3, hF⟩
  · obtain ⟨a1, a2, a3, _⟩ := h7 m r hn
    exact ⟨a1, a2, ⟨hc.below h1 h4 h2, Nat.le_trans h2 hc.size, F', a3, hF⟩, trivial⟩
theorem RS.held {rep : Nat → List Int → List Nat → World → Prop} {g : Nat} {w1 Y : World} {H : List Int} (h : RS rep g w1 H Y) (hR : RdrC rep) (hl : H.length ≤ 1000000) :
    Calls Tryd.prog 21 #[.pointer (some ⟨g, 0, none⟩)] Y fun e w' => e = .returned (.int .i64 (H.length : Int)) ∧ RS rep g w1 H w' ∧ Below Y.heap.size Y w' := by
  obtain ⟨h1, h2, F, h3, h4⟩ := id h
  exact (hR.held h3 hl).mono fun e w' ⟨he, hb⟩ => ⟨he, h.below hR hb, hb⟩
theorem sub_le {n : Nat} {a b c : World} (h : Below n a b) (k : Below b.heap.size b c) (hn : n ≤ b.heap.size) : Below n a c := h.trans (k.mono hn)
set_option maxRecDepth 100000 in
set_option maxHeartbeats 8000000 in
theorem known_any {ea : Int → Addr} {rep : Nat → List Int → List Nat → World → Prop} (hP : PutC) (hR : RdrC rep) (W : World) (hE : Errs ea W) :
    Calls Tryd.prog 15 #[] W fun e w' => e = .returned (.bool true) ∧ Below W.heap.size W w' := by
  obtain ⟨q, hq⟩ : ∃ q, W.heap.size = q := ⟨_, rfl⟩
  rw [hq]
  have HE : Hid (∀ y, Below q W y → Errs ea y ∧ q ≤ y.heap.size) := fun y hy => ⟨hE.below (by rw [hq]; exact hy), by have := hy.size; omega⟩
  have HP : Hid PutC := hP
  have HR : Hid (RdrC rep) := hR
  have kc := Lib.run_convert_bytes_const (P := Tryd.prog) (W.alloc (.cells #[.int .u8 255] 5)) 22 5 #[.int .u8 107, .int .u8 101, .int .u8 101, .int .u8 108] 4 4 Tryd.underlying22 Tryd.underlying5
  have hb1 : Below W.heap.size W (W.alloc (.cells #[.int .u8 255] 5)) := (Below.refl _ _).alloc (Nat.le_refl _) _
  have hb2 := hb1.alloc hb1.size (.cells #[.int .u8 107, .int .u8 101, .int .u8 101, .int .u8 108] 5 (4, 5))
  have r1 := (rd_lit W [255] #[.int .u8 255] rfl 1 rfl (by decide) (0, 0)).below ((Below.refl _ _).alloc (Nat.le_refl _) (.cells #[.int .u8 107, .int .u8 101, .int .u8 101, .int .u8 108] 5 (4, 5)))
  have r2 := rd_lit (W.alloc (.cells #[.int .u8 255] 5)) [107, 101, 101, 108] #[.int .u8 107, .int .u8 101, .int .u8 101, .int .u8 108] rfl 4 rfl (by decide) (4, 5)
  have C1 := hP ea _ _ _ _ _ (hE.below hb2) r1 r2 (by decide) (by decide)
  have H0 : Hid (Below q W ((W.alloc (.cells #[.int .u8 255] 5)).alloc (.cells #[.int .u8 107, .int .u8 101, .int .u8 101, .int .u8 108] 5 (4, 5)))) := by rw [← hq]; exact hb2
  rw [show (#[Value.int .u8 107, .int .u8 101, .int .u8 101, .int .u8 108] : Array Value).size = 4 from rfl] at kc
  obtain ⟨V2, hV2⟩ : ∃ V2, (W.alloc (.cells #[.int .u8 255] 5)).alloc (.cells #[.int .u8 107, .int .u8 101, .int .u8 101, .int .u8 108] 5 (4, 5)) = V2 := ⟨_, rfl⟩
  rw [show 4 + 1 = 5 from rfl, hV2] at kc
  rw [hV2] at C1 H0
  simp only [size_alloc, hq] at kc C1
  clear hE hP hR hb1 hb2 r1 r2 hV2
  go_enter Tryd.func15, Tryd.ntmps15
  go_upto_region 2 with (go_at_call 10; refine C1.mono ?_; rintro e w1 ⟨v1, c, rfl, ⟨-, h2⟩, hb⟩; (obtain ⟨rfl, ho⟩ := h2 (by decide)); (obtain ⟨a1, k1, rfl⟩ := own_slice' ho); rw [EV_0]; have H1 : Hid (Below q W w1 ∧ RdB w1 (.slice a1 7 k1) [255, 0, 4, 107, 101, 101, 108]) := ⟨sub_le H0.out hb (HE.out _ H0.out).2, own_byt (C := [255, 0, 4, 107, 101, 101, 108]) ho (by decide)⟩; clear hb ho h2 C1)
  have hz := HR.out.zero w1
  have hal1 : Below w1.heap.size w1 (w1.alloc (.cells zRd 39)) := (Below.refl _ _).alloc (Nat.le_refl _) _
  go_upto_region 3 with (fail)
  obtain ⟨g, hg⟩ : ∃ g, w1.heap.size = g := ⟨_, rfl⟩
  obtain ⟨W3, hW3⟩ : ∃ W3, w1.alloc (.cells zRd 39) = W3 := ⟨_, rfl⟩
  rw [hW3] at hal1 hz
  rw [hg] at hal1 hz
  simp only [hg, hW3]
  have HG : Hid (w1.heap.size = g ∧ q ≤ g) := ⟨hg, by have := (HE.out _ H1.out.1).2; omega⟩
  have HB : Hid (∀ Y, Below g w1 Y → Below q W Y) := fun Y hY => H1.out.1.trans (hY.mono HG.out.2)
  have H3 : Hid (RS rep g w1 [] W3) := ⟨hal1, by have := hal1.size; omega, [g], hz, fun k hk => by rw [List.mem_singleton.1 hk]; exact Nat.le_refl _⟩
  clear hz hal1 hg hW3 hq kc
  have CF := H3.out.feedL HR.out [0, 2, 97] #[.int .u8 0, .int .u8 2, .int .u8 97] rfl 3 rfl (by decide) (by decide)
  simp only [List.nil_append] at CF
  go_upto_region 4 with (go_at_call 19; refine CF.mono ?_; rintro e W4 ⟨rfl, h⟩; have H4 : Hid (RS rep g w1 [0, 2, 97] W4) := h; clear h CF)
  have CN := H4.out.next HR.out (by unfold Byb; decide) (by decide)
  rw [nx_a] at CN
  go_upto_region 5 with (go_at_call 20; refine CN.mono ?_; rintro e W5 ⟨v, b, rfl, ⟨h1, -⟩⟩; (obtain ⟨rfl, rfl, h⟩ := h1 rfl); have H5 : Hid (RS rep g w1 [0, 2, 97] W5) := h; clear h h1 CN)
  have CF := H5.out.feedL HR.out [98, 0] #[.int .u8 98, .int .u8 0] rfl 2 rfl (by decide) (by decide)
  simp only [List.cons_append, List.nil_append] at CF
  go_upto_region 6 with (go_at_call 19; refine CF.mono ?_; rintro e W6 ⟨rfl, h⟩; have H6 : Hid (RS rep g w1 [0, 2, 97, 98, 0] W6) := h; clear h CF)
  have CN := H6.out.next HR.out (by unfold Byb; decide) (by decide)
  rw [nx_b] at CN
  go_upto_region 7 with (go_at_call 20; refine CN.mono ?_; rintro e W7 ⟨v, b, rfl, ⟨-, h1⟩⟩; (obtain ⟨rfl, ho, hs, hd⟩ := h1 _ _ rfl); (obtain ⟨a7, k7, rfl⟩ := own_slice' ho); have H7 : Hid (RS rep g w1 [0] W7 ∧ RdB W7 (.slice a7 2 k7) [97, 98]) := ⟨hs, own_byt (C := [97, 98]) ho (by decide)⟩; clear ho hs hd h1 CN)
  have hmk := mk_b 65536 65536 rfl (by decide) W7
  obtain ⟨N, hN⟩ : ∃ N, N = 65536 := ⟨_, rfl⟩
  have hbz := big_rd W7 N (by omega)
  rw [← hN] at hmk
  obtain ⟨W8, hW8⟩ : ∃ W8, W7.alloc (.cells (VI .u8 (List.replicate N 0)) 5) = W8 := ⟨_, rfl⟩
  rw [hW8] at hmk hbz
  obtain ⟨g8, hg8⟩ : ∃ g8, W7.heap.size = g8 := ⟨_, rfl⟩
  rw [hg8] at hmk hbz
  rw [hN] at hmk
  have hb8 : Below W7.heap.size W7 W8 := by rw [← hW8]; exact (Below.refl _ _).alloc (Nat.le_refl _) _
  have H8 : Hid (RS rep g w1 [0] W8 ∧ RdB W8 (.slice a7 2 k7) [97, 98]) := ⟨H7.out.1.below HR.out hb8, H7.out.2.below hb8⟩
  have CP := HP.out ea W8 (.slice none 0 0) (.slice (some ⟨g8, 0, none⟩) N N) [] (List.replicate N 0) (HE.out _ (HB.out _ H8.out.1.1)).1 ⟨none, 0, rfl, ⟨Nat.le_refl _, fun _ => rfl⟩, by decide, .inl rfl⟩ hbz (by decide) (by rw [List.length_replicate, hN]; decide)
  rw [List.length_replicate] at CP
  have HN5 : Hid (65535 < N) := by show 65535 < N; omega
  have CP2 : Calls Tryd.prog 10 #[.slice none 0 0, .slice (some ⟨g8, 0, none⟩) 65536 65536] W8 fun e w' => e = .returned (.tuple #[.slice none 0 0, EV ea 3]) ∧ Below W8.heap.size W8 w' := by
    rw [← hN]
    refine CP.mono ?_
    rintro e w' ⟨v, c, rfl, ⟨h1, -⟩, hb⟩
    obtain ⟨rfl, rfl⟩ := h1 HN5.out
    exact ⟨rfl, hb⟩
  rw [EV_3] at CP2
  clear CP hbz hb8 hg8 hN hW8 H7
  go_upto_region 8 with (go_at_call 10; refine CP2.mono ?_; rintro e w9 ⟨rfl, hb⟩; have H9 : Hid (RS rep g w1 [0] w9 ∧ RdB w9 (.slice a7 2 k7) [97, 98]) := ⟨H8.out.1.below HR.out hb, H8.out.2.below hb⟩; clear hb CP2 hmk)
  have hr1 := H1.out.2.below (W := w9) (by rw [HG.out.1]; exact H9.out.1.1)
  have hal : Below w9.heap.size w9 (w9.alloc (.cells #[.int .u8 255, .int .u8 0, .int .u8 4, .int .u8 107, .int .u8 101, .int .u8 101, .int .u8 108] 5)) := (Below.refl _ _).alloc (Nat.le_refl _) _
  have CS := same_true (hr1.below hal) (rd_lit w9 [255, 0, 4, 107, 101, 101, 108] #[.int .u8 255, .int .u8 0, .int .u8 4, .int .u8 107, .int .u8 101, .int .u8 101, .int .u8 108] rfl 7 rfl (by decide) (0, 0))
  have HA : Hid (RS rep g w1 [0] (w9.alloc (.cells #[.int .u8 255, .int .u8 0, .int .u8 4, .int .u8 107, .int .u8 101, .int .u8 101, .int .u8 108] 5)) ∧ RdB (w9.alloc (.cells #[.int .u8 255, .int .u8 0, .int .u8 4, .int .u8 107, .int .u8 101, .int .u8 101, .int .u8 108] 5)) (.slice a7 2 k7) [97, 98]) := ⟨H9.out.1.below HR.out hal, H9.out.2.below hal⟩
  clear hr1 hal
  go_wp2_with (first
    | (go_at_call 13; refine CS.mono ?_; rintro e w10 ⟨rfl, hb⟩; have H10 : Hid (RS rep g w1 [0] w10 ∧ RdB w10 (.slice a7 2 k7) [97, 98]) := ⟨HA.out.1.below HR.out hb, HA.out.2.below hb⟩; have hcv := str_ab H10.out.2; have CH := H10.out.1.held HR.out (by decide); have hE3 := (HE.out _ (HB.out _ H10.out.1.1)).1; clear hb CS)
    | (go_at_call 21; refine CH.mono ?_; rintro e w11 ⟨rfl, h11, hb⟩; have H11 : Hid (RS rep g w1 [0] w11) := h11; have he3 := ((HE.out _ (HB.out _ h11.1)).1 3 (by decide)).1; simp only [eblk] at he3; have heq := eq_err (HE.out _ (HB.out _ h11.1)).1 (c := 3) (d := 3) (by decide) (by decide); simp only [decide_true] at heq; clear hb CH h11))
  go_ret
  exact ⟨rfl, HB.out _ H11.out.1⟩
end Go.Proofs.YtdakhiafagambaaDoor
