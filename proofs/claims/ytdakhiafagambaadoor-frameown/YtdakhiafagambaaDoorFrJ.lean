import Derived.Test.YtdakhiafagambaaDoorFrI
import Derived.Test.YtdakhiafagambaaDoorQm
/- stage 20: a step on both Readers -/
namespace Go.Proofs.YtdakhiafagambaaDoor
set_option linter.unusedSimpArgs false
set_option linter.unusedVariables false
open Go.ChangeShapes Go.WideShapes Go.ChangeAt Go.RowKit Go.Pin
/-- a Pair: its box, the program's Reader, the document's -/
structure PR (rep : Nat → List Int → List Nat → World → Prop) (gp g : Nat) (H : List Int) (vh : Value) (F : List Nat) (Y : World) : Prop where
  row : Y.heap[gp]? = some (.cells #[.pointer (some ⟨g, 0, none⟩), vh] 43)
  rp : rep g H F Y
  rd : RdB Y vh H
  by_ : Byb H
  gn : gp ∉ F
  vn : ∀ k, vh.ownBlock = some k → k ≠ gp ∧ k ∉ F ∧ k < Y.heap.size
section
variable {rep : Nat → List Int → List Nat → World → Prop} {gp g : Nat} {H : List Int} {vh : Value} {F : List Nat} {Y Y' : World}
theorem PR.lt (h : PR rep gp g H vh F Y) : gp < Y.heap.size := (Array.getElem?_eq_some_iff.1 h.row).1
theorem RdB.keep {w w' : World} {v : Value} {C : List Int} (h : RdB w v C) (hk : ∀ k, v.ownBlock = some k → w'.heap[k]? = w.heap[k]?) : RdB w' v C := by
  obtain ⟨a, c, e, h1, h2, h3⟩ := h
  refine ⟨a, c, e, h1, h2, ?_⟩
  rcases h3 with h3 | ⟨b, o, h3, h4⟩
  · exact .inl h3
  · refine .inr ⟨b, o, h3, fun j u hu => ?_⟩
    rw [World.cell?_of_block (a := ⟨b, o + j, none⟩) (hk b (by rw [e, h3]; rfl))]
    exact h4 j u hu
theorem PR.keep (hR : RdrC rep) (h : PR rep gp g H vh F Y) (hk : ∀ k, k = gp ∨ k ∈ F ∨ vh.ownBlock = some k → Y'.heap[k]? = Y.heap[k]?) (hz : Y.heap.size ≤ Y'.heap.size) : PR rep gp g H vh F Y' :=
  ⟨(hk gp (.inl rfl)).trans h.row, hR.keep h.rp (fun k hk' => hk k (.inr (.inl hk'))) hz, h.rd.keep (fun k hk' => hk k (.inr (.inr hk'))), h.by_, h.gn, fun k hk' => ⟨(h.vn k hk').1, (h.vn k hk').2.1, Nat.lt_of_lt_of_le (h.vn k hk').2.2 hz⟩⟩
theorem PR.below (hR : RdrC rep) (h : PR rep gp g H vh F Y) (hb : Below Y.heap.size Y Y') : PR rep gp g H vh F Y' :=
  h.keep hR (fun k hk => hb.block k (by rcases hk with rfl | hk | hk; exact h.lt; exact hR.lt h.rp k hk; exact (h.vn k hk).2.2)) hb.size
theorem PR.c0 (h : PR rep gp g H vh F Y) : Y.cell? ⟨gp, 0, none⟩ = some (.pointer (some ⟨g, 0, none⟩)) := by rw [cell_of_row _ _ _ _ _ _ h.row]; rfl
theorem PR.c1 (h : PR rep gp g H vh F Y) : Y.cell? ⟨gp, 1, none⟩ = some vh := by rw [cell_of_row _ _ _ _ _ _ h.row]; rfl
theorem PR.fz (h : PR rep gp g H vh F Y) (i : Nat) : Y.frozen? ⟨gp, i, none⟩ = false := frozen_of_row _ _ _ _ _ h.row
end
theorem Chg.trans {F G : List Nat} {w w1 w2 : World} (h : Chg F w w1) (h' : Chg G w1 w2) (hG : ∀ k ∈ G, k ∈ F ∨ w.heap.size ≤ k) : Chg F w w2 :=
  ⟨h'.os.trans h.os, h'.tape.trans h.tape, h'.output.trans h.output, Nat.le_trans h.size h'.size, fun k hk hn => (h'.blk k (Nat.lt_of_lt_of_le hk h.size) (fun hm => by rcases hG k hm with h1 | h1; exact hn h1; omega)).trans (h.blk k hk hn)⟩
theorem own_len (a : Option Addr) (n c m d : Nat) : (Value.slice a n c).ownBlock = (Value.slice a m d).ownBlock := by cases a <;> rfl
/-- what a step leaves of what is kept -/
def stpH (H : List Int) (k : Int) (C : List Int) : List Int := if k = 1 then H ++ C else if k = 2 then (match nxt H with | none => H | some (_, r) => r) else H
/-- what a step leaves -/
def StP (rep : Nat → List Int → List Nat → World → Prop) (gp g : Nat) (H : List Int) (vh : Value) (F : List Nat) (Y : World) (e : Ending) (w' : World) : Prop :=
  e = .returned (.bool true) ∧ ∃ vh' F', PR rep gp g H vh' F' w' ∧ Chg (gp :: F) Y w' ∧ (∀ k ∈ F', k ∈ F ∨ Y.heap.size ≤ k) ∧ (∀ k, vh'.ownBlock = some k → vh.ownBlock = some k ∨ Y.heap.size ≤ k)
/-- behind the program's Next: M is the message that it told -/
structure NX (rep : Nat → List Int → List Nat → World → Prop) (gp g : Nat) (H R : List Int) (vh : Value) (F F1 : List Nat) (W0 : World) (v : Value) (b : Bool) (M : List Int) (w : World) : Prop where
  row : w.heap[gp]? = some (.cells #[.pointer (some ⟨g, 0, none⟩), vh] 43)
  rp : rep g R F1 w
  rd : RdB w vh H
  vn : ∀ k, vh.ownBlock = some k → k ≠ gp ∧ k ∉ F1 ∧ k < w.heap.size
  gn : gp ∉ F1
  chg : Chg F W0 w
  f1 : ∀ k ∈ F1, k ∈ F ∨ W0.heap.size ≤ k
  mr : RdB w v M
  mn : ∀ k, v.ownBlock = some k → k ≠ gp ∧ k ∉ F1
  nx : (nxt H = none ∧ b = false ∧ M = [] ∧ R = H) ∨ (nxt H = some (M, R) ∧ b = true)
theorem nxt_len {H m r : List Int} (h : nxt H = some (m, r)) : m.length ≤ H.length ∧ r.length ≤ H.length ∧ (Byb H → Byb m ∧ Byb r) := by
  unfold nxt at h
  split at h
  · cases h
  · injection h with h
    injection h with h1 h2
    subst h1 h2
    refine ⟨by simp; omega, by simp, fun hB => ⟨fun x hx => hB x (List.mem_of_mem_drop (List.mem_of_mem_take hx)), fun x hx => hB x (List.mem_of_mem_drop hx)⟩⟩
theorem nx_state {rep : Nat → List Int → List Nat → World → Prop} {gp g : Nat} {H R : List Int} {vh v : Value} {F F1 : List Nat} {W0 w : World} {b : Bool} (h : PR rep gp g H vh F W0) (hc : Chg F W0 w) (hF : ∀ k ∈ F1, k ∈ F ∨ W0.heap.size ≤ k) (hno : nxt H = none → b = false ∧ v = .slice none 0 0 ∧ rep g H F1 w)
    (hso : ∀ m r, nxt H = some (m, r) → b = true ∧ w.ownsRow W0.heap.size 5 1 v m.length (m.map (Value.int .u8)) ∧ rep g r F1 w ∧ ∀ k, v.ownBlock = some k → k ∉ F1) (hRr : (match nxt H with | none => H | some (_, r) => r) = R) (hl : H.length ≤ 140737488355328) :
    ∃ a1 n1 k1 M, v = .slice a1 n1 k1 ∧ NX rep gp g H R vh F F1 W0 (.slice a1 n1 k1) b M w := by
  have hgp := h.lt
  have hrow := (hc.blk gp hgp h.gn).trans h.row
  have hrd := h.rd.keep (w' := w) (fun k hk => hc.blk k (h.vn k hk).2.2 (h.vn k hk).2.1)
  have hvn : ∀ k, vh.ownBlock = some k → k ≠ gp ∧ k ∉ F1 ∧ k < w.heap.size := fun k hk => ⟨(h.vn k hk).1, fun hm => by rcases hF k hm with h1 | h1; exact (h.vn k hk).2.1 h1; have := (h.vn k hk).2.2; omega, Nat.lt_of_lt_of_le (h.vn k hk).2.2 hc.size⟩
  have hgn : gp ∉ F1 := fun hm => by rcases hF gp hm with h1 | h1; exact h.gn h1; omega
  cases hn : nxt H with
  | none =>
    rw [hn] at hRr
    obtain ⟨rfl, rfl, hr⟩ := hno hn
    simp only at hRr
    subst hRr
    exact ⟨_, _, _, [], rfl, hrow, hr, hrd, hvn, hgn, hc, hF, ⟨none, 0, rfl, ⟨Nat.le_refl _, fun _ => rfl⟩, by decide, .inl rfl⟩, (fun k hk => nomatch hk), .inl ⟨hn, rfl, rfl, rfl⟩⟩
  | some x =>
    obtain ⟨m, r⟩ := x
    rw [hn] at hRr
    simp only at hRr
    subst hRr
    obtain ⟨rfl, ho, hr, hk⟩ := hso m r hn
    have hml := (nxt_len hn).1
    obtain ⟨a1, k1, rfl⟩ := own_slice' ho
    exact ⟨_, _, _, m, rfl, hrow, hr, hrd, hvn, hgn, hc, hF, own_byt ho (by omega), (fun k hk' => ⟨by have := (ho.lt k hk').1; omega, hk k hk'⟩), .inr ⟨hn, rfl⟩⟩
theorem NX.c1 {rep : Nat → List Int → List Nat → World → Prop} {gp g : Nat} {H R : List Int} {vh v : Value} {F F1 : List Nat} {W0 w : World} {b : Bool} {M : List Int} (h : NX rep gp g H R vh F F1 W0 v b M w) : w.cell? ⟨gp, 1, none⟩ = some vh := by rw [cell_of_row _ _ _ _ _ _ h.row]; rfl
/-- behind the document's Next too -/
structure NY (rep : Nat → List Int → List Nat → World → Prop) (gp g : Nat) (R : List Int) (vh : Value) (F1 : List Nat) (w1 : World) (v u r : Value) (M : List Int) (w : World) : Prop where
  row : w.heap[gp]? = some (.cells #[.pointer (some ⟨g, 0, none⟩), vh] 43)
  rp : rep g R F1 w
  gn : gp ∉ F1
  low : Below w1.heap.size w1 w
  m1 : RdB w v M
  m2 : RdB w u M
  mn : ∀ k, v.ownBlock = some k → k ≠ gp
  un : ∀ k, u.ownBlock = some k → k ≠ gp
  rr : RdB w r R
  rn : ∀ k, r.ownBlock = some k → k ≠ gp ∧ k ∉ F1 ∧ k < w.heap.size
  ro : ∀ k, r.ownBlock = some k → vh.ownBlock = some k
theorem NY.below {rep : Nat → List Int → List Nat → World → Prop} (hR : RdrC rep) {gp g : Nat} {R : List Int} {vh v u r : Value} {F1 : List Nat} {w1 w w' : World} {M : List Int} (h : NY rep gp g R vh F1 w1 v u r M w) (hb : Below w.heap.size w w') : NY rep gp g R vh F1 w1 v u r M w' :=
  ⟨(hb.block gp (Array.getElem?_eq_some_iff.1 h.row).1).trans h.row, hR.keep h.rp (fun k hk => hb.block k (hR.lt h.rp k hk)) hb.size, h.gn, h.low.trans (hb.mono h.low.size), h.m1.below hb, h.m2.below hb, h.mn, h.un, h.rr.below hb, (fun k hk => ⟨(h.rn k hk).1, (h.rn k hk).2.1, Nat.lt_of_lt_of_le (h.rn k hk).2.2 hb.size⟩), h.ro⟩
theorem chg_set (w : World) (g i : Nat) (v : Value) : Chg [g] w (w.setCell ⟨g, i, none⟩ v) := by
  have h := (Below.refl g w).setCell (p := ⟨g, i, none⟩) (Nat.le_refl _) v
  exact ⟨h.os, h.tape, h.output, h.size, fun k _ hn => heap_setCell_other _ _ _ _ (fun e => hn (by rw [e]; exact List.mem_singleton_self _))⟩
theorem NY.store {rep : Nat → List Int → List Nat → World → Prop} {gp g : Nat} {R : List Int} {vh v u r : Value} {F1 : List Nat} {w1 w : World} {M : List Int} (h : NY rep gp g R vh F1 w1 v u r M w) (hR : RdrC rep) : (Byb R → PR rep gp g R r F1 (w.setCell ⟨gp, 1, none⟩ r)) ∧ RdB (w.setCell ⟨gp, 1, none⟩ r) v M ∧ RdB (w.setCell ⟨gp, 1, none⟩ r) u M ∧ Chg [gp] w1 (w.setCell ⟨gp, 1, none⟩ r) := by
  have ho : ∀ k, k ≠ gp → (w.setCell ⟨gp, 1, none⟩ r).heap[k]? = w.heap[k]? := fun k hk => heap_setCell_other _ _ _ _ hk
  refine ⟨fun hB => ⟨by rw [heap_setCell_same w _ _ _ _ _ h.row]; rfl, hR.keep h.rp (fun k hk => ho k (fun e => h.gn (by rw [← e]; exact hk))) (by rw [World.size_setCell]; exact Nat.le_refl _), h.rr.keep (fun k hk => ho k (h.rn k hk).1), hB, h.gn, fun k hk => ⟨(h.rn k hk).1, (h.rn k hk).2.1, by rw [World.size_setCell]; exact (h.rn k hk).2.2⟩⟩, h.m1.keep (fun k hk => ho k (h.mn k hk)), h.m2.keep (fun k hk => ho k (h.un k hk)), (Chg.of_below (F := [gp]) h.low).trans (chg_set w gp 1 r) (fun k hk => .inl hk)⟩
theorem nx_ref {rep : Nat → List Int → List Nat → World → Prop} {gp g : Nat} {H R : List Int} {vh v : Value} {F F1 : List Nat} {W0 w1 w2 : World} {b : Bool} {M : List Int} {e : Ending} (h : NX rep gp g H R vh F F1 W0 v b M w1) (hR : RdrC rep) (hn : NxP H vh w1.heap.size w1 e w2) :
    ∃ x, e = .returned x ∧ ∃ a2 n2 k2 a3 n3 k3, x = .tuple #[.slice a2 n2 k2, .bool b, .agg #[.slice a3 n3 k3]] ∧ NY rep gp g R vh F1 w1 v (.slice a2 n2 k2) (.slice a3 n3 k3) M w2 := by
  obtain ⟨u, b2, r, rfl, hb, hm⟩ := hn
  have hgp := (Array.getElem?_eq_some_iff.1 h.row).1
  have hrow := (hb.block gp hgp).trans h.row
  have hrp := hR.keep h.rp (fun k hk => hb.block k (hR.lt h.rp k hk)) hb.size
  rcases h.nx with ⟨hx, rfl, rfl, rfl⟩ | ⟨hx, rfl⟩
  · rw [hx] at hm
    obtain ⟨rfl, rfl, rfl⟩ := hm
    obtain ⟨a3, k3, e3, -⟩ := id h.rd
    subst e3
    exact ⟨_, rfl, _, _, _, _, _, _, rfl, hrow, hrp, h.gn, hb, h.mr.below hb, ⟨none, 0, rfl, ⟨Nat.le_refl _, fun _ => rfl⟩, by decide, .inl rfl⟩, fun k hk => (h.mn k hk).1, (fun k hk => nomatch hk), h.rd.below hb, (fun k hk => ⟨(h.vn k hk).1, (h.vn k hk).2.1, Nat.lt_of_lt_of_le (h.vn k hk).2.2 hb.size⟩), fun k hk => hk⟩
  · rw [hx] at hm
    obtain ⟨rfl, ho, hr, hk3⟩ := hm
    obtain ⟨a3, k3, e3, -⟩ := id hr
    subst e3
    obtain ⟨a2, k2, rfl⟩ := own_slice' ho
    have hml : M.length ≤ 140737488355328 := by
      obtain ⟨_, _, e, _, hl, _⟩ := h.rd
      have := (nxt_len hx).1
      omega
    exact ⟨_, rfl, _, _, _, _, _, _, rfl, hrow, hrp, h.gn, hb, h.mr.below hb, own_byt ho hml, fun k hk => (h.mn k hk).1, (fun k hk => by have := (ho.lt k hk).1; omega), hr, (fun k hk => by have := h.vn k (hk3 k hk); exact ⟨this.1, this.2.1, Nat.lt_of_lt_of_le this.2.2 hb.size⟩), hk3⟩
set_option maxRecDepth 100000 in
set_option maxHeartbeats 8000000 in
theorem step_held {rep : Nat → List Int → List Nat → World → Prop} (hR : RdrC rep) {gp g : Nat} {H : List Int} {vh vx : Value} {F : List Nat} {Y : World} (k : Int) (hk1 : k ≠ 1) (hk2 : k ≠ 2) (h : PR rep gp g H vh F Y) (hl : H.length ≤ 1000000) {a : Option Addr} {n c : Nat} (hx : vx = .slice a n c) :
    Calls Tryd.prog 17 #[.pointer (some ⟨gp, 0, none⟩), .agg #[.int .i64 k, vx]] Y (StP rep gp g H vh F Y) := by
  subst hx
  have hb : Below Y.heap.size Y (Y.alloc (.cells #[.int .i64 k, .slice a n c] 46)) := (Below.refl _ _).alloc (Nat.le_refl _) _
  have hr := heap_alloc_new Y (.cells #[.int .i64 k, .slice a n c] 46)
  have h1 := h.below hR hb
  obtain ⟨ah, ch, hvh, -⟩ := id h.rd
  obtain ⟨q, hq⟩ : ∃ q, Y.heap.size = q := ⟨_, rfl⟩
  obtain ⟨W0, hW0⟩ : ∃ W0, Y.alloc (.cells #[.int .i64 k, .slice a n c] 46) = W0 := ⟨_, rfl⟩
  rw [hW0] at hb hr h1
  rw [hq] at hr
  have x0 : W0.cell? ⟨q, 0, none⟩ = some (.int .i64 k) := by rw [cell_of_row _ _ _ _ _ _ hr]; rfl
  have b1 : (k == 1) = false := by simpa using hk1
  have b2 : (k == 2) = false := by simpa using hk2
  subst hvh
  have HX : Hid (∀ V, Below W0.heap.size W0 V → PR rep gp g H (.slice ah H.length ch) F V) := fun V hV => h1.below hR hV
  have H0 : Hid (Below Y.heap.size Y W0) := hb
  have HR : Hid (RdrC rep) := hR
  have HL : Hid (H.length ≤ 1000000) := hl
  unfold StP
  obtain ⟨nH, hnH⟩ : ∃ m, H.length = m := ⟨_, rfl⟩
  rw [hnH] at HX HL
  have CH : Hid (∀ V, Below W0.heap.size W0 V → Calls Tryd.prog 21 #[.pointer (some ⟨g, 0, none⟩)] V fun e w' => e = .returned (.int .i64 (nH : Int)) ∧ Below V.heap.size V w') := fun V hV => by
    have := HR.out.held (HX.out V hV).rp (by rw [hnH]; exact HL.out)
    rw [hnH] at this
    exact this
  clear h hb hr h1 hl hnH hR
  go_enter Tryd.func17, Tryd.ntmps17
  go_upto_region 17 with (fail)
  refine Go.Pin.wp_region_cls (fun V => Below W0.heap.size W0 V) (by kernel_rfl) (by kernel_rfl) ((Below.refl _ _).drew) ?_
  intro Sq fq hNq hRq hSq
  have s0 := fun x => (HX.out _ (hRq x)).c0
  have s1 := fun x => (HX.out _ (hRq x)).c1
  have C1 := fun x => CH.out (fq x) (hRq x)
  repeat (go_big_quiet_step (exact (C1 _).mono (fun e w' h => ⟨h.1, hSq _ ((hRq _).trans (h.2.mono (hRq _).size))⟩)))
  refine wpQuiet_nil ?_
  intro _ hw'
  obtain ⟨xq, hw''⟩ := hw'
  subst hw''
  have HYq := hRq xq
  generalize fq xq = V at HYq ⊢
  clear hRq hSq hNq xq fq Sq s0 s1 C1 hq hW0 x0
  have HV : Hid (Below W0.heap.size W0 V) := HYq
  clear HYq
  go_wp2
  go_ret
  exact ⟨rfl, _, F, HX.out V HV.out, Chg.of_below (H0.out.trans (HV.out.mono H0.out.size)), (fun k hk => .inl hk), fun k hk => .inl ((own_len _ _ _ _ _).trans hk)⟩
set_option maxRecDepth 100000 in
set_option maxHeartbeats 8000000 in
theorem step_next {rep : Nat → List Int → List Nat → World → Prop} (hR : RdrC rep) {gp g : Nat} {H : List Int} {vh vx : Value} {F : List Nat} {Y : World} (h : PR rep gp g H vh F Y) (hl : H.length ≤ 1000000) {a : Option Addr} {n c : Nat} (hx : vx = .slice a n c) :
    Calls Tryd.prog 17 #[.pointer (some ⟨gp, 0, none⟩), .agg #[.int .i64 2, vx]] Y (StP rep gp g (match nxt H with | none => H | some (_, r) => r) vh F Y) := by
  subst hx
  have hb : Below Y.heap.size Y (Y.alloc (.cells #[.int .i64 2, .slice a n c] 46)) := (Below.refl _ _).alloc (Nat.le_refl _) _
  have hr := heap_alloc_new Y (.cells #[.int .i64 2, .slice a n c] 46)
  have h1 := h.below hR hb
  obtain ⟨ah, ch, hvh, -⟩ := id h.rd
  obtain ⟨q, hq⟩ : ∃ q, Y.heap.size = q := ⟨_, rfl⟩
  obtain ⟨W0, hW0⟩ : ∃ W0, Y.alloc (.cells #[.int .i64 2, .slice a n c] 46) = W0 := ⟨_, rfl⟩
  rw [hW0] at hb hr h1
  rw [hq] at hr
  have x0 : W0.cell? ⟨q, 0, none⟩ = some (.int .i64 2) := by rw [cell_of_row _ _ _ _ _ _ hr]; rfl
  subst hvh
  have hN : ∃ R, (match nxt H with | none => H | some (_, r) => r) = R := ⟨_, rfl⟩
  obtain ⟨R, hRr⟩ := hN
  rw [hRr]
  have H1 : Hid (PR rep gp g H (.slice ah H.length ch) F W0) := h1
  have H0 : Hid (Below Y.heap.size Y W0 ∧ Y.heap.size = q ∧ q < W0.heap.size) := ⟨hb, hq, (Array.getElem?_eq_some_iff.1 hr).1⟩
  have HR : Hid (RdrC rep) := hR
  have HL : Hid (H.length ≤ 1000000) := hl
  have HRr : Hid ((match nxt H with | none => H | some (_, r) => r) = R) := hRr
  unfold StP
  have C1 := hR.next h1.rp h1.by_ hl
  have s0 := h1.c0
  clear h hb hr h1 hl hR hRr
  go_enter Tryd.func17, Tryd.ntmps17
  go_upto_region 14 with (go_at_call 20; refine C1.mono ?_; rintro e w1 ⟨v, b, rfl, hc, F1, hF1, hno, hso⟩; (obtain ⟨a1, n1, k1, M, rfl, h1⟩ := nx_state H1.out hc hF1 hno hso HRr.out (by have := HL.out; omega)); have H2 : Hid (NX rep gp g H R (.slice ah H.length ch) F F1 W0 (.slice a1 n1 k1) b M w1) := h1; clear h1 hc hF1 hno hso C1 s0)
  have C2 := rnext_any H2.out.rd H1.out.by_ HL.out
  have s1 := H2.out.c1
  go_upto_region 15 with (go_at_call 18; refine C2.mono ?_; intro e w2 hh; (obtain ⟨x, he, a2, n2, k2, a3, n3, k3, rfl, h3⟩ := nx_ref H2.out HR.out hh); subst he; have H3 : Hid (NY rep gp g R (.slice ah H.length ch) F1 w1 (.slice a1 n1 k1) (.slice a2 n2 k2) (.slice a3 n3 k3) M w2) := h3; clear h3 hh C2 s1)
  have hal : Below w2.heap.size w2 (w2.alloc (.cells #[.slice a3 n3 k3] 41)) := (Below.refl _ _).alloc (Nat.le_refl _) _
  have h4 := H3.out.below HR.out hal
  have hrow := heap_alloc_new w2 (.cells #[.slice a3 n3 k3] 41)
  obtain ⟨gb, hgb⟩ : ∃ gb, w2.heap.size = gb := ⟨_, rfl⟩
  obtain ⟨w3, hw3⟩ : ∃ w3, w2.alloc (.cells #[.slice a3 n3 k3] 41) = w3 := ⟨_, rfl⟩
  rw [hw3] at h4 hrow
  rw [hgb] at hrow
  simp only [hgb, hw3]
  have x3 : w3.cell? ⟨gb, 0, none⟩ = some (.slice a3 n3 k3) := by rw [cell_of_row _ _ _ _ _ _ hrow]; rfl
  have x4 : w3.cell? ⟨gp, 1, none⟩ = some (.slice ah H.length ch) := by rw [cell_of_row _ _ _ _ _ _ h4.row]; rfl
  have f4 : w3.frozen? ⟨gp, 1, none⟩ = false := frozen_of_row _ _ _ _ _ h4.row
  have H4 : Hid (NY rep gp g R (.slice ah H.length ch) F1 w1 (.slice a1 n1 k1) (.slice a2 n2 k2) (.slice a3 n3 k3) M w3) := h4
  clear hal h4 hrow hw3 hgb
  go_upto_region 16 with (fail)
  have h5 := H4.out.store HR.out
  obtain ⟨w4, hw4⟩ : ∃ w4, w3.setCell ⟨gp, 1, none⟩ (.slice a3 n3 k3) = w4 := ⟨_, rfl⟩
  rw [hw4] at h5
  simp only [hw4]
  have H5 : Hid _ := h5
  have CS := same_true h5.2.1 h5.2.2.1
  clear h5 hw4 x3 x4 f4
  go_wp2_with (go_at_call 13; refine CS.mono ?_; rintro e w5 ⟨rfl, hb5⟩; have H6 : Hid (Below w4.heap.size w4 w5) := hb5; clear hb5 CS)
  go_ret
  refine ⟨by simp, .slice a3 n3 k3, F1, (H5.out.1 (by
    rcases H2.out.nx with ⟨_, _, _, e⟩ | ⟨e, _⟩
    · rw [e]; exact H1.out.by_
    · exact ((nxt_len e).2.2 H1.out.by_).2)).below HR.out H6.out, ?_, (fun k hk => by rcases H2.out.f1 k hk with h | h; exact .inl h; exact .inr (by have := H0.out.1.size; omega)), fun k hk => .inl (H3.out.ro k hk)⟩
  have c1 : Chg (gp :: F) Y w1 := (Chg.of_below H0.out.1).trans H2.out.chg (fun k hk => .inl (List.mem_cons_of_mem _ hk))
  have c2 : Chg (gp :: F) Y w4 := c1.trans H5.out.2.2.2 (fun k hk => .inl (by rw [List.mem_singleton.1 hk]; exact List.mem_cons_self))
  exact c2.trans (Chg.of_below (F := []) H6.out) (fun k hk => nomatch hk)
end Go.Proofs.YtdakhiafagambaaDoor
