import Derived.Deep.DeepCutAuto
import Derived.Test.YtmlcgcmoioekpabGreatDoorMqbf
import Derived.Test.YtmlcgcmoioekpabGreatDoorMqbc
import Derived.Test.YtmlcgcmoioekpabGreatDoorMqae
namespace Go.Pin
open Go.RowKit
section
variable {P : Program} {ops : Array Oper} {Q : Exit → Act → World → Prop} {S : World → Prop} {fuel : Nat} {listed : Array Bool} {a : Act} {w : World}
/-- two operations may come up -/
theorem readyQ2 (i j : Nat) {o o' : Oper} (hi : ops[i]? = some o) (hj : ops[j]? = some o') (hr : Region.ready .any ops listed = [i, j]) (hw : Region.wanted o (yielded ops a.tmps) = true) (hw' : Region.wanted o' (yielded ops a.tmps) = true)
    (h : ∀ K : Act → World → Prop, (∀ a' w', S w' → wpAnyH P .any ops Q S fuel (listed.setIfInBounds i true) a' w' → K a' w') → Oper.wp P o a w K Q)
    (h' : ∀ K : Act → World → Prop, (∀ a' w', S w' → wpAnyH P .any ops Q S fuel (listed.setIfInBounds j true) a' w' → K a' w') → Oper.wp P o' a w K Q) : wpAnyH P .any ops Q S (fuel + 1) listed a w := by
  refine wpAnyH_all hr (by simp) (fun k hk => ?_)
  rcases (by simpa using hk : k = i ∨ k = j) with rfl | rfl
  · refine wpOp_step hi (fun K hK => ?_)
    rw [if_pos hw]
    exact h K (fun a' w' h1 h2 => hK a' w' ⟨h1, h2⟩)
  · refine wpOp_step hj (fun K hK => ?_)
    rw [if_pos hw']
    exact h' K (fun a' w' h1 h2 => hK a' w' ⟨h1, h2⟩)
end
end Go.Pin
namespace Go.Proofs.YtmlcgcmoioekpabGreatDoor
set_option linter.unusedSimpArgs false
set_option linter.unusedVariables false
set_option maxRecDepth 100000
open Go.ChangeShapes Go.WideShapes Go.ChangeAt Go.RowKit Go.Pin Go.Pat Go.Deep
theorem box_ne {w : World} {b k o : Nat} {T : TypeId} {x : Int} (hb : w.heap[b]? = some (.cells zPR T)) (h : w.cell? ⟨k, o, none⟩ = some (.int .i64 x)) : k ≠ b := by
  rintro rfl
  rw [cell_of_row _ _ _ _ _ _ hb] at h
  match o, h with
  | 0, h => simp [zPR] at h
  | 1, h => simp [zPR] at h
  | 2, h => simp [zPR] at h
  | 3, h => simp [zPR] at h
  | o + 4, h => simp [zPR] at h
theorem cell_off {w : World} {b k o : Nat} {cs : Array Value} (h : k ≠ b) : (w.setRow b cs).cell? ⟨k, o, none⟩ = w.cell? ⟨k, o, none⟩ := World.cell?_of_block (a := ⟨k, o, none⟩) (setRow_other w b k cs h)
theorem RdN.box {w : World} {b : Nat} {T : TypeId} {cs : Array Value} {v : Value} {C : List Int} (hb : w.heap[b]? = some (.cells zPR T)) (h : RdN w v C) : RdN (w.setRow b cs) v C := by
  obtain ⟨a, cap, e, h1, h2, h3⟩ := h
  refine ⟨a, cap, e, h1, h2, ?_⟩
  rcases h3 with h3 | ⟨k, o, h3, h4⟩
  · exact .inl h3
  · refine .inr ⟨k, o, h3, fun j u hj => ?_⟩
    have := h4 j u hj
    obtain ⟨x, hx⟩ : ∃ x, u = .int .i64 x := by
      have := List.mem_of_getElem? hj
      obtain ⟨x, _, rfl⟩ := List.mem_map.1 this
      exact ⟨x, rfl⟩
    subst hx
    rw [cell_off (box_ne hb this)]
    exact this
theorem RdP.box {w : World} {b : Nat} {T : TypeId} {cs : Array Value} {v : Value} {p : Pt} (hb : w.heap[b]? = some (.cells zPR T)) (h : RdP w v p) : RdP (w.setRow b cs) v p := by
  obtain ⟨v0, v1, vl, e, h0, h1, a, cap, e2, h2, h3, h4⟩ := h
  refine ⟨v0, v1, vl, e, h0.box hb, h1.box hb, a, cap, e2, h2, h3, fun j hj => ?_⟩
  obtain ⟨k, o, u, g1, g2, g3, g4⟩ := h4 j hj
  have hk := box_ne hb g2
  exact ⟨k, o, u, g1, by rw [cell_off hk]; exact g2, by rw [cell_off hk]; exact g3, g4.box hb⟩
/-- a pattern's cells -/
def vPc (P : Pt) (x : Option Addr × Nat × Option Addr × Nat × Option Addr × Nat) : Array Value := #[.string P.nm, .slice x.1 P.b0.length x.2.1, .slice x.2.2.1 P.b1.length x.2.2.2.1, .slice x.2.2.2.2.1 P.ln.length x.2.2.2.2.2]
theorem box_ne2 {w : World} {b k o : Nat} {T : TypeId} {P0 : Pt} {x0 : Option Addr × Nat × Option Addr × Nat × Option Addr × Nat} {x : Int} (hb : w.heap[b]? = some (.cells (vPc P0 x0) T)) (h : w.cell? ⟨k, o, none⟩ = some (.int .i64 x)) : k ≠ b := by
  rintro rfl
  rw [cell_of_row _ _ _ _ _ _ hb] at h
  match o, h with
  | 0, h => simp [vPc] at h
  | 1, h => simp [vPc] at h
  | 2, h => simp [vPc] at h
  | 3, h => simp [vPc] at h
  | o + 4, h => simp [vPc] at h
theorem RdN.box2 {w : World} {b : Nat} {T : TypeId} {P0 : Pt} {x0 : Option Addr × Nat × Option Addr × Nat × Option Addr × Nat} {cs : Array Value} {v : Value} {C : List Int} (hb : w.heap[b]? = some (.cells (vPc P0 x0) T)) (h : RdN w v C) : RdN (w.setRow b cs) v C := by
  obtain ⟨a, cap, e, h1, h2, h3⟩ := h
  refine ⟨a, cap, e, h1, h2, ?_⟩
  rcases h3 with h3 | ⟨k, o, h3, h4⟩
  · exact .inl h3
  · refine .inr ⟨k, o, h3, fun j u hj => ?_⟩
    have := h4 j u hj
    obtain ⟨x, hx⟩ : ∃ x, u = .int .i64 x := by
      have := List.mem_of_getElem? hj
      obtain ⟨x, _, rfl⟩ := List.mem_map.1 this
      exact ⟨x, rfl⟩
    subst hx
    rw [cell_off (box_ne2 hb this)]
    exact this
theorem RdP.box2 {w : World} {b : Nat} {T : TypeId} {P0 : Pt} {x0 : Option Addr × Nat × Option Addr × Nat × Option Addr × Nat} {cs : Array Value} {v : Value} {p : Pt} (hb : w.heap[b]? = some (.cells (vPc P0 x0) T)) (h : RdP w v p) : RdP (w.setRow b cs) v p := by
  obtain ⟨v0, v1, vl, e, h0, h1, a, cap, e2, h2, h3, h4⟩ := h
  refine ⟨v0, v1, vl, e, h0.box2 hb, h1.box2 hb, a, cap, e2, h2, h3, fun j hj => ?_⟩
  obtain ⟨k, o, u, g1, g2, g3, g4⟩ := h4 j hj
  have hk := box_ne2 hb g2
  exact ⟨k, o, u, g1, by rw [cell_off hk]; exact g2, by rw [cell_off hk]; exact g3, g4.box2 hb⟩
theorem RdP.vp {w : World} {v : Value} {p : Pt} (h : RdP w v p) : ∃ x, v = .agg (vPc p x) := by
  obtain ⟨a0, k0, a1, k1, al, kl, rfl⟩ := rdp_sl h
  exact ⟨(a0, k0, a1, k1, al, kl), rfl⟩
theorem ne_err {ea : Int → Addr} {W : World} (h : Errs ea W) {c : Int} (hc : c ∈ ecs) : (binOp .neq 30 (.iface 169 (.pointer (some (ea c)))) (.iface 169 (.pointer (some (ea c))))).run Tryz.prog W = .ok (.bool false) W := by
  have e := eq_err h hc hc
  obtain ⟨x, hx⟩ : ∃ x, Value.iface 169 (.pointer (some (ea c))) = x := ⟨_, rfl⟩
  have e1 : (binOp .eql 30 (.iface 169 (.pointer (some (ea c)))) (.iface 169 (.pointer (some (ea c))))).run Tryz.prog W = ((Op.equal 30 (.iface 169 (.pointer (some (ea c)))) (.iface 169 (.pointer (some (ea c))))).run Tryz.prog W).andThen fun r w => .ok (.bool r) w := by unfold binOp; simp only [Sem.run_bind, Sem.run_pure]
  have e2 : (binOp .neq 30 (.iface 169 (.pointer (some (ea c)))) (.iface 169 (.pointer (some (ea c))))).run Tryz.prog W = ((Op.equal 30 (.iface 169 (.pointer (some (ea c)))) (.iface 169 (.pointer (some (ea c))))).run Tryz.prog W).andThen fun r w => .ok (.bool (!r)) w := by unfold binOp; simp only [Sem.run_bind, Sem.run_pure]
  rw [e1] at e
  rw [e2]
  cases hr : (Op.equal 30 (.iface 169 (.pointer (some (ea c)))) (.iface 169 (.pointer (some (ea c))))).run Tryz.prog W with
  | ok r w =>
    rw [hr] at e
    simp only [Result.andThen_ok, Result.ok.injEq, Value.bool.injEq, decide_true] at e ⊢
    rw [e.1, e.2]
    exact ⟨rfl, rfl⟩
  | _ =>
    rw [hr] at e
    simp [Result.andThen] at e
theorem lines_at {w : World} {v0 v1 : Value} {nm : ByteArray} {a : Option Addr} {n c : Nat} {p : Pt} (h : RdP w (.agg #[.string nm, v0, v1, .slice a n c]) p) (j : Nat) (hj : j < p.ln.length) : ∃ b o a2 n2 c2, a = some ⟨b, o, none⟩ ∧ w.cell? ⟨b, o + j * 2 + 1, none⟩ = some (.slice a2 n2 c2) ∧ RdN w (.slice a2 n2 c2) (p.ln.getD j (0, [])).2 ∧ n2 = (p.ln.getD j (0, [])).2.length := by
  obtain ⟨u0, u1, ul, e, r0, r1, rl⟩ := h
  injection e with e
  simp only [Array.mk.injEq, List.cons.injEq, and_true] at e
  obtain ⟨_, e0, e1, el⟩ := e
  subst e0 e1 el
  obtain ⟨hl, _⟩ := rl.len
  obtain ⟨b, o, a2, n2, c2, h1, h2, h3, h4⟩ := rl.at (j := j) (by omega)
  exact ⟨b, o, a2, n2, c2, h1, (h2 w (Below.refl _ _)).2, h3, h4⟩
theorem lines_from {w : World} {v0 v1 : Value} {nm : ByteArray} {a : Option Addr} {n c : Nat} {p : Pt} (h : RdP w (.agg #[.string nm, v0, v1, .slice a n c]) p) (j : Nat) (hj : j < p.ln.length) : ∃ b o, a = some ⟨b, o, none⟩ ∧ w.cell? ⟨b, o + j * 2, none⟩ = some (.int .i64 (p.ln.getD j (0, [])).1) := by
  obtain ⟨u0, u1, ul, e, r0, r1, rl⟩ := h
  injection e with e
  simp only [Array.mk.injEq, List.cons.injEq, and_true] at e
  obtain ⟨_, e0, e1, el⟩ := e
  subst e0 e1 el
  obtain ⟨hl, _⟩ := rl.len
  obtain ⟨b, o, a2, n2, c2, h1, h2, h3, h4⟩ := rl.at (j := j) (by omega)
  exact ⟨b, o, h1, (h2 w (Below.refl _ _)).1⟩
theorem before_at {w : World} {v1 vl : Value} {nm : ByteArray} {a : Option Addr} {n c : Nat} {p : Pt} (h : RdP w (.agg #[.string nm, .slice a n c, v1, vl]) p) (j : Nat) (hj : j < p.b0.length) : ∃ b o, a = some ⟨b, o, none⟩ ∧ w.cell? ⟨b, o + j, none⟩ = some (.int .i64 (p.b0.getD j 0)) := by
  obtain ⟨u0, u1, ul, e, r0, r1, rl⟩ := h
  injection e with e
  simp only [Array.mk.injEq, List.cons.injEq, and_true] at e
  obtain ⟨_, e0, e1, el⟩ := e
  subst e0 e1 el
  obtain ⟨hn, _, hat⟩ := r0.at
  obtain ⟨b, o, h1, h2⟩ := hat j (by omega)
  exact ⟨b, o, h1, h2 w (Below.refl _ _)⟩
/-- the words' row -/
abbrev pksR : Array Value := #[.string ⟨#[112, 115, 107, 48]⟩, .string ⟨#[112, 115, 107, 49]⟩, .string ⟨#[112, 115, 107, 50]⟩, .string ⟨#[112, 115, 107, 51]⟩, .string ⟨#[112, 115, 107, 52]⟩, .string ⟨#[112, 115, 107, 53]⟩]
structure MW (q : Nat) (W : World) (v0 v1 vl : Value) (p : Pt) (y : World) : Prop where
  ow : OW q W v0 v1 vl p y
  ps : y.heap[q + 1]? = some (.cells pksR 9)
theorem MW.on {q : Nat} {W y y' : World} {v0 v1 vl : Value} {p : Pt} (h : MW q W v0 v1 vl p y) (hb : Below y.heap.size y y') : MW q W v0 v1 vl p y' := ⟨h.ow.on hb, (hb.block _ (Array.getElem?_eq_some_iff.1 h.ps).1).trans h.ps⟩
theorem pk_row (i : Nat) (hi : i < 6) : pksR[i]? = some (.string (pk i)) := by
  match i, hi with
  | 0, _ => rfl
  | 1, _ => rfl
  | 2, _ => rfl
  | 3, _ => rfl
  | 4, _ => rfl
  | 5, _ => rfl
theorem MW.pk {q : Nat} {W y : World} {v0 v1 vl : Value} {p : Pt} (h : MW q W v0 v1 vl p y) (i : Nat) (hi : i < 6) : y.cell? ⟨q + 1, i, none⟩ = some (.string (pk i)) := by
  rw [cell_of_row _ _ _ _ _ _ h.ps]
  exact pk_row i hi
theorem rds_many {q : Nat} {W y : World} {v0 v1 vl : Value} {p : Pt} (h : MW q W v0 v1 vl p y) {n : Nat} (hn : n ≤ 4) : RdS y (.slice (some ⟨q + 1, 0, none⟩) (n + 1) 6) (pks.take (n + 1)) := by
  have hl : (pks.take (n + 1)).length = n + 1 := by rw [List.length_take]; show min (n + 1) 6 = n + 1; omega
  refine ⟨_, 6, by rw [hl], fun j hj => ⟨q + 1, 0, rfl, ?_⟩⟩
  rw [hl] at hj
  rw [Nat.zero_add, h.pk j (by omega)]
  have : (pks.take (n + 1)).getD j ⟨#[]⟩ = pk j := by
    rw [show (pks.take (n + 1)).getD j ⟨#[]⟩ = pks.getD j ⟨#[]⟩ by simp [List.getD, List.getElem?_take_of_lt hj]]
    match j, (show j < 6 by omega) with
    | 0, _ => rfl
    | 1, _ => rfl
    | 2, _ => rfl
    | 3, _ => rfl
    | 4, _ => rfl
    | 5, _ => rfl
  rw [this]
theorem mod_many {ea : Int → Addr} {q : Nat} {W Y : World} {v0 v1 vl : Value} {p P : Pt} {n : Nat} (hE : Errs ea Y) (h : MW q W v0 v1 vl p Y) (hn : p.nm.size ≤ 100) (h4 : n ≤ 4) (hm : mdf p (pks.take (n + 1)) = (P, 0)) :
    Calls Tryz.prog 13 #[.agg #[.string p.nm, v0, v1, vl], .slice (some ⟨q + 1, 0, none⟩) (n + 1) 6] Y fun e w' => ∃ x, e = .returned (.tuple #[.agg (vPc P x), .nilIface]) ∧ (RdP w' (.agg (vPc P x)) P ∧ Below Y.heap.size Y w') := by
  have hsz : ∀ x ∈ pks, x.size ≤ 140737488355328 := by
    intro x hx
    simp only [pks, List.mem_cons, List.not_mem_nil, or_false] at hx
    rcases hx with rfl | rfl | rfl | rfl | rfl | rfl <;> decide
  refine (modify_any' (ea := ea) _ _ p (pks.take (n + 1)) Y hE h.ow.2.rd (rds_many h h4) (by omega) (by rw [List.length_take]; omega) (fun x hx => hsz x (List.mem_of_mem_take hx)) (fun a m c e => by injection e with h1 h2 h3; omega)).mono ?_
  rintro e w' ⟨hb, v0, v1, vl, rfl, hf⟩
  rw [hm, EV_0]
  rw [hm] at hf
  have hr := hf.rd
  obtain ⟨x, hx⟩ := hr.vp
  exact ⟨x, by rw [← hx], by rw [← hx]; exact hr, hb⟩
theorem rds_one {y : World} {g : Nat} {s : ByteArray} (h : y.heap[g]? = some (.cells #[.string s] 9)) : RdS y (.slice (some ⟨g, 0, none⟩) 1 1) [s] := ⟨_, 1, rfl, fun j hj => ⟨g, 0, rfl, by
  obtain rfl : j = 0 := by simp at hj; exact hj
  rw [cell_of_row _ _ _ _ _ _ h]; rfl⟩⟩
/-- Modify by one word, as the law asks it -/
theorem mod_one {ea : Int → Addr} {v : Value} {p P : Pt} {s : ByteArray} {d : Int} {ev : Value} {Y : World} {g : Nat} (hE : Errs ea Y) (hR : RdP Y v p) (hn : p.nm.size ≤ 100) (hs : s.size ≤ 100) (hrow : Y.heap[g]? = some (.cells #[.string s] 9)) (hm : mdf p [s] = (P, d)) (hev : EV ea d = ev) :
    Calls Tryz.prog 13 #[v, .slice (some ⟨g, 0, none⟩) 1 1] Y fun e w' => ∃ x, e = .returned (.tuple #[.agg (vPc P x), ev]) ∧ (RdP w' (.agg (vPc P x)) P ∧ Below Y.heap.size Y w') := by
  refine (modify_any' (ea := ea) v _ p [s] Y hE hR (rds_one hrow) (by omega) (by simp) (fun x hx => by simp at hx; subst hx; omega) (fun a n c h => by injection h with h1 h2 h3; omega)).mono ?_
  rintro e w' ⟨hb, v0, v1, vl, rfl, hf⟩
  rw [hm, hev]
  rw [hm] at hf
  have hr := hf.rd
  obtain ⟨x, hx⟩ := hr.vp
  exact ⟨x, by rw [← hx], by rw [← hx]; exact hr, hb⟩
set_option maxHeartbeats 8000000 in
theorem modified_true {ea : Int → Addr} (v : Value) (p : Pt) (W : World) (hE : Errs ea W) (hR : RdP W v p) (h : TbF p) :
    Calls Tryz.prog 18 #[v] W fun e w' => e = .returned (.bool true) ∧ Below W.heap.size W w' := by
  obtain ⟨a0, p0, a1, p1, al, cv, rfl⟩ := rdp_sl hR
  have hst := bx_new W hR
  have hal : Below W.heap.size W (W.alloc (.cells #[.string p.nm, .slice a0 p.b0.length p0, .slice a1 p.b1.length p1, .slice al p.ln.length cv] 26)) := (Below.refl _ _).alloc (Nat.le_refl _) _
  obtain ⟨q, hq⟩ : ∃ q, W.heap.size = q := ⟨_, rfl⟩
  obtain ⟨n0, hn0⟩ : ∃ n0, p.b0.length = n0 := ⟨_, rfl⟩
  obtain ⟨n1, hn1⟩ : ∃ n1, p.b1.length = n1 := ⟨_, rfl⟩
  obtain ⟨nl, hnl⟩ : ∃ nl, p.ln.length = nl := ⟨_, rfl⟩
  simp only [hn0, hn1, hnl] at hst hal ⊢
  have hs1 : (W.alloc (.cells #[.string p.nm, .slice a0 n0 p0, .slice a1 n1 p1, .slice al nl cv] 26)).heap.size = q + 1 := by rw [size_alloc, hq]
  have hE1 : ∀ y, Below q W y → Errs ea y ∧ q ≤ y.heap.size := fun y hy => ⟨hE.below (by rw [hq]; exact hy), by have := hy.size; omega⟩
  obtain ⟨W1, hW1⟩ : ∃ W1, W.alloc (.cells #[.string p.nm, .slice a0 n0 p0, .slice a1 n1 p1, .slice al nl cv] 26) = W1 := ⟨_, rfl⟩
  simp only [hq, hW1] at hst hal hs1 ⊢
  have HE : Hid (∀ y, Below q W y → Errs ea y ∧ q ≤ y.heap.size) := hE1
  have H1 : Hid (OW q W (.slice a0 n0 p0) (.slice a1 n1 p1) (.slice al nl cv) p W1 ∧ W1.heap.size = q + 1) := ⟨⟨hal, hst⟩, hs1⟩
  have HT : Hid (TbF p) := h
  have HN : Hid (p.b0.length = n0 ∧ p.b1.length = n1 ∧ p.ln.length = nl ∧ nl ≤ 4 ∧ 1 ≤ nl) := ⟨hn0, hn1, hnl, by have := h.b.le; omega, by have := h.b.le; omega⟩
  have d3 := hst.c3
  clear hst hal hE hE1 hR h hn0 hn1 hnl
  go_enter Tryz.func18, Tryz.ntmps18
  go_upto_region 1 with (fail)
  clear hW1
  go_upto_region 2 with (fail)
  try simp only [hs1]
  have hb2 : Below W1.heap.size W1 (W1.alloc (.cells pksR 9)) := (Below.refl _ _).alloc (Nat.le_refl _) _
  have hps : (W1.alloc (.cells pksR 9)).heap[q + 1]? = some (.cells pksR 9) := by rw [← H1.out.2]; exact heap_alloc_new _ _
  have hM2 : MW q W (.slice a0 n0 p0) (.slice a1 n1 p1) (.slice al nl cv) p (W1.alloc (.cells pksR 9)) := ⟨H1.out.1.on hb2, hps⟩
  obtain ⟨W2, hW2⟩ : ∃ W2, W1.alloc (.cells pksR 9) = W2 := ⟨_, rfl⟩
  simp only [hW2] at hM2 ⊢
  have H2 : Hid (MW q W (.slice a0 n0 p0) (.slice a1 n1 p1) (.slice al nl cv) p W2) := hM2
  clear d3 hb2 hps hW2 hs1
  have d3 := hM2.ow.2.c3
  clear hM2
  have bl4 : (nl : Int) ≤ 4 := by have := HN.out; omega
  have bl1 : (1 : Int) ≤ nl := by have := HN.out; omega
  go_wp2
  clear d3
  go_loopw [5] (fun v5 y => (∃ i : Nat, i ≤ 6 ∧ v5 = .int .i64 i) ∧ MW q W (.slice a0 n0 p0) (.slice a1 n1 p1) (.slice al nl cv) p y) (fun v _ => 6 - (intOf v).toNat)
  case atStart => exact ⟨⟨0, by omega, rfl⟩, H2.out⟩
  case round =>
    obtain ⟨⟨i, hi, rfl⟩, hM⟩ := hrel
    obtain ⟨w0, hw0⟩ : ∃ w0, w0 = wr := ⟨_, rfl⟩
    subst hw0
    have HM0 : Hid (MW q W (.slice a0 n0 p0) (.slice a1 n1 p1) (.slice al nl cv) p w0) := hM
    clear hM
    by_cases hlt : i < 6
    · have g1 : (i : Int) < 6 := by omega
      have g0 : (0 : Int) ≤ (i : Int) := by omega
      obtain ⟨s, hs⟩ : ∃ s, pk i = s := ⟨_, rfl⟩
      have hsz : s.size ≤ 100 := by rw [← hs]; show (4 : Nat) ≤ 100; decide
      have HPK : Hid (∀ y, Below w0.heap.size w0 y → y.cell? ⟨q + 1, i, none⟩ = some (.string s)) := fun y hy => by rw [← hs]; exact (HM0.out.on hy).pk i hlt
      obtain ⟨x, hx⟩ : ∃ x, mdf p [s] = x := ⟨_, rfl⟩
      obtain ⟨P, d⟩ := x
      obtain ⟨ev, hev⟩ : ∃ ev, EV ea d = ev := ⟨_, rfl⟩
      have HMD : Hid (∀ (Y : World) (g : Nat), Below w0.heap.size w0 Y → Y.heap[g]? = some (.cells #[.string s] 9) → Calls Tryz.prog 13 #[.agg #[.string p.nm, .slice a0 n0 p0, .slice a1 n1 p1, .slice al nl cv], .slice (some ⟨g, 0, none⟩) 1 1] Y fun e w' => ∃ x, e = .returned (.tuple #[.agg (vPc P x), ev]) ∧ (RdP w' (.agg (vPc P x)) P ∧ Below Y.heap.size Y w')) := fun Y g hY hg => mod_one (HE.out _ (HM0.out.on hY).ow.1).1 (HM0.out.on hY).ow.2.rd HT.out.nm hsz hg hx hev
      have HX : Hid (mdf p [s] = (P, d) ∧ EV ea d = ev ∧ pk i = s ∧ i < 6 ∧ s.size ≤ 100) := ⟨hx, hev, hs, hlt, hsz⟩
      clear hs hx hev hlt hi hsz
      go_upto_region 6 with (fail)
      go_cut [6, 7] (fun v6 v7 wx => ∃ b x, v6 = .pointer (some ⟨b, 0, none⟩) ∧ v7 = ev ∧ w0.heap.size ≤ b ∧ wx.heap[b]? = some (.cells (vPc P x) 26) ∧ RdP wx (.agg (vPc P x)) P ∧ Below w0.heap.size w0 wx)
      case first =>
        as_aux_lemma =>
          refine Go.Pin.wp_region_hcls (fun Y => Below w0.heap.size w0 Y) 13 (by rfl) (by kernel_rfl) ((Below.refl _ _).drew) ?_
          intro Sq fq hNq hRq hSq
          have y0 := fun x => (HM0.out.on (hRq x)).ow.2.c0
          have y1 := fun x => (HM0.out.on (hRq x)).ow.2.c1
          have y2 := fun x => (HM0.out.on (hRq x)).ow.2.c2
          have y3 := fun x => (HM0.out.on (hRq x)).ow.2.c3
          have y4 := fun x => HPK.out _ (hRq x)
          have st0 : Below w0.heap.size w0 w0.drew := (Below.refl _ _).drew
          refine Go.Pin.takeQ 0 (by simp only [List.getElem?_toArray, List.getElem?_cons_zero, List.getElem?_cons_succ]; exact rfl) (by kernel_rfl) (by kernel_rfl) (by kernel_rfl) (by rfl) (fun _ _ d _ _ h => by cases d <;> exact h) (st0) (hSq).out (by kernel_rfl) ?_
          intro Kq hKq
          go_big_quiet_op
          go_big_quiet_on
          refine Go.Pin.takeQ 1 (by simp only [List.getElem?_toArray, List.getElem?_cons_zero, List.getElem?_cons_succ]; exact rfl) (by kernel_rfl) (by kernel_rfl) (by kernel_rfl) (by rfl) (fun _ _ d _ _ h => by cases d <;> exact h) (st0) (hSq).out (by kernel_rfl) ?_
          intro Kq hKq
          go_big_quiet_op
          go_big_quiet_on
          refine Go.Pin.takeQ 2 (by simp only [List.getElem?_toArray, List.getElem?_cons_zero, List.getElem?_cons_succ]; exact rfl) (by kernel_rfl) (by kernel_rfl) (by kernel_rfl) (by rfl) (fun _ _ d _ _ h => by cases d <;> exact h) (st0) (hSq).out (by kernel_rfl) ?_
          intro Kq hKq
          go_big_quiet_op
          go_big_quiet_on
          refine Go.Pin.takeQ 3 (by simp only [List.getElem?_toArray, List.getElem?_cons_zero, List.getElem?_cons_succ]; exact rfl) (by kernel_rfl) (by kernel_rfl) (by kernel_rfl) (by rfl) (fun _ _ d _ _ h => by cases d <;> exact h) (st0) (hSq).out (by kernel_rfl) ?_
          intro Kq hKq
          go_big_quiet_op
          go_big_quiet_on
          refine Go.Pin.takeQ 4 (by simp only [List.getElem?_toArray, List.getElem?_cons_zero, List.getElem?_cons_succ]; exact rfl) (by kernel_rfl) (by kernel_rfl) (by kernel_rfl) (by rfl) (fun _ _ d _ _ h => by cases d <;> exact h) (st0) (hSq).out (by kernel_rfl) ?_
          intro Kq hKq
          go_big_quiet_op
          go_big_quiet_on
          obtain ⟨wd, hwd⟩ : ∃ wd, w0.drew = wd := ⟨_, rfl⟩
          rw [hwd] at st0
          rw [hwd]
          have hsb : Below wd.heap.size wd (wd.alloc (.cells #[.string s] 9)) := (Below.refl _ _).alloc (Nat.le_refl _) _
          have stb : Below w0.heap.size w0 (wd.alloc (.cells #[.string s] 9)) := st0.trans (hsb.mono st0.size)
          have hrb : (wd.alloc (.cells #[.string s] 9)).heap[wd.heap.size]? = some (.cells #[.string s] 9) := heap_alloc_new _ _
          have hsa : Below wd.heap.size wd (wd.alloc (.cells zPR 26)) := (Below.refl _ _).alloc (Nat.le_refl _) _
          have sta : Below w0.heap.size w0 (wd.alloc (.cells zPR 26)) := st0.trans (hsa.mono st0.size)
          have hra : (wd.alloc (.cells zPR 26)).heap[wd.heap.size]? = some (.cells zPR 26) := heap_alloc_new _ _
          refine Go.Pin.readyQ2 5 10 (by simp only [List.getElem?_toArray, List.getElem?_cons_zero, List.getElem?_cons_succ]; exact rfl) (by simp only [List.getElem?_toArray, List.getElem?_cons_zero, List.getElem?_cons_succ]; exact rfl) (by kernel_rfl) (by kernel_rfl) (by kernel_rfl) ?_ ?_
          · intro K hK
            refine wpRun (d := some 30) (v := .slice (some ⟨wd.heap.size, 0, none⟩) 1 1) (w' := wd.alloc (.cells #[.string s] 9)) rfl (by unfold execOp; go_simp) (hK _ _ stb ?_)
            simp only [Act.put, List.setIfInBounds_toArray, List.set_cons_zero, List.set_cons_succ]
            clear hK K
            obtain ⟨gb, hgb⟩ : ∃ gb, wd.heap.size = gb := ⟨_, rfl⟩
            obtain ⟨wb, hwb⟩ : ∃ wb, wd.alloc (.cells #[.string s] 9) = wb := ⟨_, rfl⟩
            rw [hwb, hgb] at hrb
            rw [hwb] at stb
            rw [hwb, hgb]
            have CW := HMD.out wb gb stb hrb
            have hs2 : Below wb.heap.size wb (wb.alloc (.cells zPR 26)) := (Below.refl _ _).alloc (Nat.le_refl _) _
            have st2 : Below w0.heap.size w0 (wb.alloc (.cells zPR 26)) := stb.trans (hs2.mono stb.size)
            have hr2 : (wb.alloc (.cells zPR 26)).heap[wb.heap.size]? = some (.cells zPR 26) := heap_alloc_new _ _
            have CV := HMD.out (wb.alloc (.cells zPR 26)) gb st2 ((hs2.block _ (Array.getElem?_eq_some_iff.1 hrb).1).trans hrb)
            have hle2 : w0.heap.size ≤ wb.heap.size := stb.size
            refine Go.Pin.readyQ2 6 10 (by simp only [List.getElem?_toArray, List.getElem?_cons_zero, List.getElem?_cons_succ]; exact rfl) (by simp only [List.getElem?_toArray, List.getElem?_cons_zero, List.getElem?_cons_succ]; exact rfl) (by kernel_rfl) (by kernel_rfl) (by kernel_rfl) ?_ ?_
            · intro K hK
              refine wpCallX (d := some 31) (v := fun x => .tuple #[.agg (vPc P x), ev]) rfl rfl (args := #[.agg #[.string p.nm, .slice a0 n0 p0, .slice a1 n1 p1, .slice al nl cv], .slice (some ⟨gb, 0, none⟩) 1 1]) (by simp only [List.map_toArray, List.map_cons, List.map_nil]; rfl) (fun _ => rfl) CW (fun x w7 h7 => ?_)
              have st7 : Below w0.heap.size w0 w7 := stb.trans (h7.2.mono stb.size)
              refine hK _ _ st7 ?_
              simp only [Act.put, List.setIfInBounds_toArray, List.set_cons_zero, List.set_cons_succ]
              clear hK K CW CV
              refine Go.Pin.takeQ 7 (by simp only [List.getElem?_toArray, List.getElem?_cons_zero, List.getElem?_cons_succ]; exact rfl) (by kernel_rfl) (by kernel_rfl) (by kernel_rfl) (by rfl) (fun _ _ d _ _ h => by cases d <;> exact h) (st7) (hSq).out (by kernel_rfl) ?_
              intro Kq hKq
              go_big_quiet_op
              go_big_quiet_on
              refine Go.Pin.takeQ 8 (by simp only [List.getElem?_toArray, List.getElem?_cons_zero, List.getElem?_cons_succ]; exact rfl) (by kernel_rfl) (by kernel_rfl) (by kernel_rfl) (by rfl) (fun _ _ d _ _ h => by cases d <;> exact h) (st7) (hSq).out (by kernel_rfl) ?_
              intro Kq hKq
              go_big_quiet_op
              go_big_quiet_on
              refine Go.Pin.takeQ 9 (by simp only [List.getElem?_toArray, List.getElem?_cons_zero, List.getElem?_cons_succ]; exact rfl) (by kernel_rfl) (by kernel_rfl) (by kernel_rfl) (by rfl) (fun _ _ d _ _ h => by cases d <;> exact h) (st7) (hSq).out (by kernel_rfl) ?_
              intro Kq hKq
              go_big_quiet_op
              go_big_quiet_on
              have hst8 : Below w7.heap.size w7 (w7.alloc (.cells zPR 26)) := (Below.refl _ _).alloc (Nat.le_refl _) _
              have st8 : Below w0.heap.size w0 (w7.alloc (.cells zPR 26)) := st7.trans (hst8.mono st7.size)
              have hrow8 : (w7.alloc (.cells zPR 26)).heap[w7.heap.size]? = some (.cells zPR 26) := heap_alloc_new _ _
              have hle8 : w0.heap.size ≤ w7.heap.size := st7.size
              have hrd8 := h7.1.below hst8
              refine Go.Pin.readyQ 10 (by simp only [List.getElem?_toArray, List.getElem?_cons_zero, List.getElem?_cons_succ]; exact rfl) (by kernel_rfl) (by kernel_rfl) ?_
              intro K hK
              refine wpRun (d := some 6) (v := .pointer (some ⟨w7.heap.size, 0, none⟩)) (w' := w7.alloc (.cells zPR 26)) rfl (by unfold execOp; go_simp) (hK _ _ st8 ?_)
              simp only [Act.put, List.setIfInBounds_toArray, List.set_cons_zero, List.set_cons_succ]
              clear hK K
              refine Go.Pin.readyQ 11 (by simp only [List.getElem?_toArray, List.getElem?_cons_zero, List.getElem?_cons_succ]; exact rfl) (by kernel_rfl) (by kernel_rfl) ?_
              intro K hK
              refine wp_store_row 26 (.tmp 6) (.tmp 32) rfl w7.heap.size (vPc P x) rfl rfl 26 zPR hrow8 (ipR _ _ _ _) rfl (by simp [vPc, Value.oneCell']) ?_
              have stz : Below w0.heap.size w0 ((w7.alloc (.cells zPR 26)).setRow w7.heap.size (vPc P x)) := Go.Pin.below_setRow st8 _ hle8 _
              refine hK _ _ stz ?_
              simp only [Act.put, List.setIfInBounds_toArray, List.set_cons_zero, List.set_cons_succ]
              clear hK K
              have hrd : RdP ((w7.alloc (.cells zPR 26)).setRow w7.heap.size (vPc P x)) (.agg (vPc P x)) P := hrd8.box hrow8
              have hrw : ((w7.alloc (.cells zPR 26)).setRow w7.heap.size (vPc P x)).heap[w7.heap.size]? = some (.cells (vPc P x) 26) := setRow_heap _ _ _ _ _ _ hrow8
              have hle : w0.heap.size ≤ w7.heap.size := hle8
              refine Go.Pin.takeQ 12 (by simp only [List.getElem?_toArray, List.getElem?_cons_zero, List.getElem?_cons_succ]; exact rfl) (by kernel_rfl) (by kernel_rfl) (by kernel_rfl) (by rfl) (fun _ _ d _ _ h => by cases d <;> exact h) (stz) (hSq).out (by kernel_rfl) ?_
              intro Kq hKq
              go_big_quiet_op
              go_big_quiet_on
              refine wpAnyH_done (by kernel_rfl) ?_ _
              go_wp2_with fail
              go_meet
              exact ⟨_, x, rfl, rfl, hle, hrw, hrd, stz⟩
            · intro K hK
              refine wpRun (d := some 6) (v := .pointer (some ⟨wb.heap.size, 0, none⟩)) (w' := wb.alloc (.cells zPR 26)) rfl (by unfold execOp; go_simp) (hK _ _ st2 ?_)
              simp only [Act.put, List.setIfInBounds_toArray, List.set_cons_zero, List.set_cons_succ]
              clear hK K
              obtain ⟨g2, hg2⟩ : ∃ g2, wb.heap.size = g2 := ⟨_, rfl⟩
              obtain ⟨w2, hw2⟩ : ∃ w2, wb.alloc (.cells zPR 26) = w2 := ⟨_, rfl⟩
              rw [hw2] at CV st2
              rw [hw2, hg2] at hr2
              rw [hg2] at hle2
              rw [hw2, hg2]
              refine Go.Pin.readyQ 6 (by simp only [List.getElem?_toArray, List.getElem?_cons_zero, List.getElem?_cons_succ]; exact rfl) (by kernel_rfl) (by kernel_rfl) ?_
              intro K hK
              refine wpCallX (d := some 31) (v := fun x => .tuple #[.agg (vPc P x), ev]) rfl rfl (args := #[.agg #[.string p.nm, .slice a0 n0 p0, .slice a1 n1 p1, .slice al nl cv], .slice (some ⟨gb, 0, none⟩) 1 1]) (by simp only [List.map_toArray, List.map_cons, List.map_nil]; rfl) (fun _ => rfl) CV (fun x w8 h8 => ?_)
              have st8 : Below w0.heap.size w0 w8 := st2.trans (h8.2.mono st2.size)
              have hrow8 : w8.heap[g2]? = some (.cells zPR 26) := (h8.2.block _ (Array.getElem?_eq_some_iff.1 hr2).1).trans hr2
              refine hK _ _ st8 ?_
              simp only [Act.put, List.setIfInBounds_toArray, List.set_cons_zero, List.set_cons_succ]
              clear hK K CW CV
              refine Go.Pin.takeQ 7 (by simp only [List.getElem?_toArray, List.getElem?_cons_zero, List.getElem?_cons_succ]; exact rfl) (by kernel_rfl) (by kernel_rfl) (by kernel_rfl) (by rfl) (fun _ _ d _ _ h => by cases d <;> exact h) (st8) (hSq).out (by kernel_rfl) ?_
              intro Kq hKq
              go_big_quiet_op
              go_big_quiet_on
              refine Go.Pin.takeQ 8 (by simp only [List.getElem?_toArray, List.getElem?_cons_zero, List.getElem?_cons_succ]; exact rfl) (by kernel_rfl) (by kernel_rfl) (by kernel_rfl) (by rfl) (fun _ _ d _ _ h => by cases d <;> exact h) (st8) (hSq).out (by kernel_rfl) ?_
              intro Kq hKq
              go_big_quiet_op
              go_big_quiet_on
              refine Go.Pin.takeQ 9 (by simp only [List.getElem?_toArray, List.getElem?_cons_zero, List.getElem?_cons_succ]; exact rfl) (by kernel_rfl) (by kernel_rfl) (by kernel_rfl) (by rfl) (fun _ _ d _ _ h => by cases d <;> exact h) (st8) (hSq).out (by kernel_rfl) ?_
              intro Kq hKq
              go_big_quiet_op
              go_big_quiet_on
              refine Go.Pin.readyQ 11 (by simp only [List.getElem?_toArray, List.getElem?_cons_zero, List.getElem?_cons_succ]; exact rfl) (by kernel_rfl) (by kernel_rfl) ?_
              intro K hK
              refine wp_store_row 26 (.tmp 6) (.tmp 32) rfl g2 (vPc P x) rfl rfl 26 zPR hrow8 (ipR _ _ _ _) rfl (by simp [vPc, Value.oneCell']) ?_
              have stz : Below w0.heap.size w0 (w8.setRow g2 (vPc P x)) := Go.Pin.below_setRow st8 _ hle2 _
              refine hK _ _ stz ?_
              simp only [Act.put, List.setIfInBounds_toArray, List.set_cons_zero, List.set_cons_succ]
              clear hK K
              have hrd : RdP (w8.setRow g2 (vPc P x)) (.agg (vPc P x)) P := h8.1.box hrow8
              have hrw : (w8.setRow g2 (vPc P x)).heap[g2]? = some (.cells (vPc P x) 26) := setRow_heap _ _ _ _ _ _ hrow8
              have hle : w0.heap.size ≤ g2 := hle2
              refine Go.Pin.takeQ 12 (by simp only [List.getElem?_toArray, List.getElem?_cons_zero, List.getElem?_cons_succ]; exact rfl) (by kernel_rfl) (by kernel_rfl) (by kernel_rfl) (by rfl) (fun _ _ d _ _ h => by cases d <;> exact h) (stz) (hSq).out (by kernel_rfl) ?_
              intro Kq hKq
              go_big_quiet_op
              go_big_quiet_on
              refine wpAnyH_done (by kernel_rfl) ?_ _
              go_wp2_with fail
              go_meet
              exact ⟨_, x, rfl, rfl, hle, hrw, hrd, stz⟩
          · intro K hK
            refine wpRun (d := some 6) (v := .pointer (some ⟨wd.heap.size, 0, none⟩)) (w' := wd.alloc (.cells zPR 26)) rfl (by unfold execOp; go_simp) (hK _ _ sta ?_)
            simp only [Act.put, List.setIfInBounds_toArray, List.set_cons_zero, List.set_cons_succ]
            clear hK K
            have hlea : w0.heap.size ≤ wd.heap.size := st0.size
            obtain ⟨ga, hga⟩ : ∃ ga, wd.heap.size = ga := ⟨_, rfl⟩
            obtain ⟨wa, hwa⟩ : ∃ wa, wd.alloc (.cells zPR 26) = wa := ⟨_, rfl⟩
            rw [hwa] at sta
            rw [hwa, hga] at hra
            rw [hga] at hlea
            rw [hwa, hga]
            have hs2 : Below wa.heap.size wa (wa.alloc (.cells #[.string s] 9)) := (Below.refl _ _).alloc (Nat.le_refl _) _
            have st2 : Below w0.heap.size w0 (wa.alloc (.cells #[.string s] 9)) := sta.trans (hs2.mono sta.size)
            have hr2 : (wa.alloc (.cells #[.string s] 9)).heap[wa.heap.size]? = some (.cells #[.string s] 9) := heap_alloc_new _ _
            have ha2 : (wa.alloc (.cells #[.string s] 9)).heap[ga]? = some (.cells zPR 26) := (hs2.block _ (Array.getElem?_eq_some_iff.1 hra).1).trans hra
            refine Go.Pin.readyQ 5 (by simp only [List.getElem?_toArray, List.getElem?_cons_zero, List.getElem?_cons_succ]; exact rfl) (by kernel_rfl) (by kernel_rfl) ?_
            intro K hK
            refine wpRun (d := some 30) (v := .slice (some ⟨wa.heap.size, 0, none⟩) 1 1) (w' := wa.alloc (.cells #[.string s] 9)) rfl (by unfold execOp; go_simp) (hK _ _ st2 ?_)
            simp only [Act.put, List.setIfInBounds_toArray, List.set_cons_zero, List.set_cons_succ]
            clear hK K
            obtain ⟨gb, hgb⟩ : ∃ gb, wa.heap.size = gb := ⟨_, rfl⟩
            obtain ⟨wb, hwb⟩ : ∃ wb, wa.alloc (.cells #[.string s] 9) = wb := ⟨_, rfl⟩
            rw [hwb] at st2 ha2
            rw [hwb, hgb] at hr2
            rw [hwb, hgb]
            have CW := HMD.out wb gb st2 hr2
            refine Go.Pin.readyQ 6 (by simp only [List.getElem?_toArray, List.getElem?_cons_zero, List.getElem?_cons_succ]; exact rfl) (by kernel_rfl) (by kernel_rfl) ?_
            intro K hK
            refine wpCallX (d := some 31) (v := fun x => .tuple #[.agg (vPc P x), ev]) rfl rfl (args := #[.agg #[.string p.nm, .slice a0 n0 p0, .slice a1 n1 p1, .slice al nl cv], .slice (some ⟨gb, 0, none⟩) 1 1]) (by simp only [List.map_toArray, List.map_cons, List.map_nil]; rfl) (fun _ => rfl) CW (fun x w8 h8 => ?_)
            have st8 : Below w0.heap.size w0 w8 := st2.trans (h8.2.mono st2.size)
            have hrow8 : w8.heap[ga]? = some (.cells zPR 26) := (h8.2.block _ (Array.getElem?_eq_some_iff.1 ha2).1).trans ha2
            refine hK _ _ st8 ?_
            simp only [Act.put, List.setIfInBounds_toArray, List.set_cons_zero, List.set_cons_succ]
            clear hK K CW
            refine Go.Pin.takeQ 7 (by simp only [List.getElem?_toArray, List.getElem?_cons_zero, List.getElem?_cons_succ]; exact rfl) (by kernel_rfl) (by kernel_rfl) (by kernel_rfl) (by rfl) (fun _ _ d _ _ h => by cases d <;> exact h) (st8) (hSq).out (by kernel_rfl) ?_
            intro Kq hKq
            go_big_quiet_op
            go_big_quiet_on
            refine Go.Pin.takeQ 8 (by simp only [List.getElem?_toArray, List.getElem?_cons_zero, List.getElem?_cons_succ]; exact rfl) (by kernel_rfl) (by kernel_rfl) (by kernel_rfl) (by rfl) (fun _ _ d _ _ h => by cases d <;> exact h) (st8) (hSq).out (by kernel_rfl) ?_
            intro Kq hKq
            go_big_quiet_op
            go_big_quiet_on
            refine Go.Pin.takeQ 9 (by simp only [List.getElem?_toArray, List.getElem?_cons_zero, List.getElem?_cons_succ]; exact rfl) (by kernel_rfl) (by kernel_rfl) (by kernel_rfl) (by rfl) (fun _ _ d _ _ h => by cases d <;> exact h) (st8) (hSq).out (by kernel_rfl) ?_
            intro Kq hKq
            go_big_quiet_op
            go_big_quiet_on
            refine Go.Pin.readyQ 11 (by simp only [List.getElem?_toArray, List.getElem?_cons_zero, List.getElem?_cons_succ]; exact rfl) (by kernel_rfl) (by kernel_rfl) ?_
            intro K hK
            refine wp_store_row 26 (.tmp 6) (.tmp 32) rfl ga (vPc P x) rfl rfl 26 zPR hrow8 (ipR _ _ _ _) rfl (by simp [vPc, Value.oneCell']) ?_
            have stz : Below w0.heap.size w0 (w8.setRow ga (vPc P x)) := Go.Pin.below_setRow st8 _ hlea _
            refine hK _ _ stz ?_
            simp only [Act.put, List.setIfInBounds_toArray, List.set_cons_zero, List.set_cons_succ]
            clear hK K
            have hrd : RdP (w8.setRow ga (vPc P x)) (.agg (vPc P x)) P := h8.1.box hrow8
            have hrw : (w8.setRow ga (vPc P x)).heap[ga]? = some (.cells (vPc P x) 26) := setRow_heap _ _ _ _ _ _ hrow8
            have hle : w0.heap.size ≤ ga := hlea
            refine Go.Pin.takeQ 12 (by simp only [List.getElem?_toArray, List.getElem?_cons_zero, List.getElem?_cons_succ]; exact rfl) (by kernel_rfl) (by kernel_rfl) (by kernel_rfl) (by rfl) (fun _ _ d _ _ h => by cases d <;> exact h) (stz) (hSq).out (by kernel_rfl) ?_
            intro Kq hKq
            go_big_quiet_op
            go_big_quiet_on
            refine wpAnyH_done (by kernel_rfl) ?_ _
            go_wp2_with fail
            go_meet
            exact ⟨_, x, rfl, rfl, hle, hrw, hrd, stz⟩
      obtain ⟨b, x, rfl, rfl, hle, hrw, hrd, hbl⟩ := hcut
      obtain ⟨e0, f0, e1, f1, e2, f2⟩ := x
      have hMc := HM0.out.on hbl
      obtain ⟨L, hL⟩ : ∃ L, P.ln.length = L := ⟨_, rfl⟩
      obtain ⟨Pn, hPn⟩ : ∃ Pn, P.nm = Pn := ⟨_, rfl⟩
      have hBX : BX b (.slice e0 P.b0.length f0) (.slice e1 P.b1.length f1) (.slice e2 P.ln.length f2) P wc := ⟨hrw, hrd⟩
      have HC : Hid (MW q W (.slice a0 n0 p0) (.slice a1 n1 p1) (.slice al nl cv) p wc ∧ BX b (.slice e0 P.b0.length f0) (.slice e1 P.b1.length f1) (.slice e2 P.ln.length f2) P wc) := ⟨hMc, hBX⟩
      clear hrw hrd hbl hle hMc hBX
      by_cases hin : i ≤ nl
      case neg =>
        have hd : d = 1 := by have := HT.out.n i HX.out.2.2.2.1 (by rw [HN.out.2.2.1]; exact hin); rw [HX.out.2.2.1, HX.out.1] at this; exact this
        have hev := HX.out.2.1
        rw [hd, EV_ne (by decide)] at hev
        subst hev
        have ce := ((HE.out _ HC.out.1.ow.1).1.1 1 (by decide)).1
        simp only [eblk] at ce
        have hne := ne_err (HE.out _ HC.out.1.ow.1).1 (c := 1) (by decide)
        have b1 : ¬ (i : Int) ≤ nl := by omega
        have b2 : (i : Int) > nl := by omega
        have b3 : (nl : Int) < i := by omega
        clear hin
        go_wp2
        exact ⟨⟨⟨i + 1, by have := HX.out.2.2.2.1; omega, congrArg (Value.int .i64) (Int.natCast_succ i).symm⟩, HC.out.1⟩, measN HX.out.2.2.2.1⟩
      have hA := HT.out.a i HX.out.2.2.2.1 (by rw [HN.out.2.2.1]; exact hin)
      rw [HX.out.2.2.1, HX.out.1] at hA
      have hev := HX.out.2.1
      rw [show d = 0 from hA.er, EV_0] at hev
      subst hev
      have HA : Hid (OkA p i (P, d)) := hA
      have hLn : L = nl := by rw [← hL, ← HN.out.2.2.1]; exact hA.ln
      have hPm : Pn = p.nm ++ s := by rw [← hPn, ← HX.out.2.2.1]; exact hA.nm
      clear hA
      have b1 : (i : Int) ≤ nl := by omega
      have b2 : ¬ (i : Int) > nl := by omega
      have b3 : ¬ (nl : Int) < i := by omega
      clear hin
      go_upto_region 10 with (fail)
      as_aux_lemma =>
        have HCT : Hid (∀ y, Below wc.heap.size wc y → Calls Tryz.prog 40 #[.agg #[.string Pn, .slice e0 P.b0.length f0, .slice e1 P.b1.length f1, .slice e2 L f2], .int .i64 (-1), .int .i64 7] y fun e w' => e = .returned (.int .i64 1) ∧ Below y.heap.size y w') := fun y hy => by
          have := count_any _ P (-1) 7 y (HC.out.2.below hy).rd HA.out.sh
          rw [show cntP P (-1) 7 = 1 from HA.out.ct, hPn, hL] at this
          exact this
        have HYW : Hid (∀ y, Below wc.heap.size wc y → MW q W (.slice a0 n0 p0) (.slice a1 n1 p1) (.slice al nl cv) p y) := fun y hy => HC.out.1.on hy
        have HYB : Hid (∀ y, Below wc.heap.size wc y → y.cell? ⟨b, 0, none⟩ = some (.string Pn) ∧ y.cell? ⟨b, 1, none⟩ = some (.slice e0 P.b0.length f0) ∧ y.cell? ⟨b, 2, none⟩ = some (.slice e1 P.b1.length f1) ∧ y.cell? ⟨b, 3, none⟩ = some (.slice e2 L f2) ∧ RdP y (.agg #[.string Pn, .slice e0 P.b0.length f0, .slice e1 P.b1.length f1, .slice e2 L f2]) P) := fun y hy => by
          have h := HC.out.2.below hy
          rw [← hPn, ← hL]
          exact ⟨h.c0, h.c1, h.c2, h.c3, h.rd⟩
        have HPK2 : Hid (∀ y, Below wc.heap.size wc y → y.cell? ⟨q + 1, i, none⟩ = some (.string s)) := fun y hy => by rw [← HX.out.2.2.1]; exact (HC.out.1.on hy).pk i HX.out.2.2.2.1
        subst hPm hLn
        have hz1 : p.nm.size ≤ 100 := HT.out.nm
        have hz2 : s.size ≤ 100 := HX.out.2.2.2.2
        have htt : ((p.nm ++ s).toList == (p.nm ++ s).toList) = true := by simp
        have hLL : ((L : Int) == (L : Int)) = true := by simp
        have hLM : ((L : Int) != (L : Int)) = false := by simp
        have HLE : Hid (P.ln.length = L ∧ P.nm = p.nm ++ s) := ⟨hL, hPn⟩
        clear hPn hL
        refine Go.Pin.wp_region_cls (fun Y => Below wc.heap.size wc Y) (by kernel_rfl) (by kernel_rfl) ((Below.refl _ _).drew) ?_
        intro Sq fq hNq hRq hSq
        have y0 := fun x => (HYW.out _ (hRq x)).ow.2.c0
        have y3 := fun x => (HYW.out _ (hRq x)).ow.2.c3
        have k0 := fun x => (HYB.out _ (hRq x)).1
        have k1 := fun x => (HYB.out _ (hRq x)).2.1
        have k2 := fun x => (HYB.out _ (hRq x)).2.2.1
        have k3 := fun x => (HYB.out _ (hRq x)).2.2.2.1
        have s0 := fun x => HPK2.out _ (hRq x)
        have C1 := fun x => HCT.out (fq x) (hRq x)
        repeat (go_big_quiet_step (first
            | (with_reducible refine Calls.mono (C1 _) ?_; intro e w' h; exact ⟨h.1, hSq _ ((hRq _).trans (h.2.mono (hRq _).size))⟩)))
        refine wpQuiet_nil ?_
        intro _ hw'
        obtain ⟨xq, hw''⟩ := hw'
        subst hw''
        have HYq := hRq xq
        generalize fq xq = Y at HYq ⊢
        clear hRq hSq hNq xq fq Sq y0 y3 k0 k1 k2 k3 s0 C1
        have HY : Hid (MW q W (.slice a0 n0 p0) (.slice a1 n1 p1) (.slice al L cv) p Y ∧ RdP Y (.agg #[.string (p.nm ++ s), .slice e0 P.b0.length f0, .slice e1 P.b1.length f1, .slice e2 L f2]) P ∧ Y.cell? ⟨b, 3, none⟩ = some (.slice e2 L f2)) := ⟨HYW.out _ HYq, (HYB.out _ HYq).2.2.2.2, (HYB.out _ HYq).2.2.2.1⟩
        clear HYq HYW HYB HPK2 HCT htt hLL hLM
        as_aux_lemma =>
          obtain ⟨k, hk⟩ : ∃ k, i - 1 = k := ⟨_, rfl⟩
          have hkl : k < L := by have := HA.out.lt; have := HN.out; omega
          obtain ⟨bq, oq, aq, nq, cq, he2, hcq, hnq, hlq⟩ := lines_at HY.out.2.1 k (by have := HLE.out.1; omega)
          obtain ⟨bp, op, ap, np, cp, hal, hcp, hnp, hlp⟩ := lines_at HY.out.1.ow.2.rd k (by have := HN.out; omega)
          subst he2 hal
          have y3 := HY.out.1.ow.2.c3
          have k3 := HY.out.2.2
          have hlen : nq = np + 1 := by rw [hlq, hlp]; have := HA.out.le; rw [hk] at this; exact this
          have hnp : np ≤ 24 := by rw [hlp]; have := HA.out.sm; rw [hk] at this; exact this
          have gk0 : (0 : Int) ≤ (k : Int) := by omega
          have gk1 : (k : Int) < L := by omega
          have bn : (np : Int) ≤ 24 := by omega
          have q1 : (np : Int) + 1 = (np : Int) + 1 := rfl
          rcases Nat.eq_zero_or_pos i with hi0 | hi0
          · obtain rfl : k = 0 := by omega
            have h7 : (lnT P 0).getD 0 0 = 7 := HA.out.hd hi0
            obtain ⟨b2, o2, ha2, hc2⟩ := hnq.at.2.2 0 (by omega)
            subst ha2
            have c7 := hc2 Y (Below.refl _ _)
            have c7' : Y.cell? ⟨b2, o2, none⟩ = some (.int .i64 7) := by
              have e7 : (P.ln.getD 0 (0, [])).2.getD 0 0 = 7 := h7
              rw [e7] at c7
              exact c7
            subst hi0 hlen
            simp only [Nat.zero_mul, Nat.add_zero] at hcq hcp
            have hmx : max (-1 : Int) 0 = 0 := by decide
            clear hc2 c7 hnq hnp hlq hlp h7
            go_wp2
            exact ⟨⟨⟨1, by omega, rfl⟩, HY.out.1⟩, by decide⟩
          · obtain rfl : i = k + 1 := by omega
            have h7 : (lnT P k).getD (lnT p k).length 0 = 7 := by have := HA.out.tl hi0; rw [hk] at this; exact this
            obtain ⟨b2, o2, ha2, hc2⟩ := hnq.at.2.2 np (by omega)
            subst ha2
            have c7 := hc2 Y (Below.refl _ _)
            have c7' : Y.cell? ⟨b2, o2 + np, none⟩ = some (.int .i64 7) := by
              have e7 : (P.ln.getD k (0, [])).2.getD np 0 = 7 := by rw [hlp]; exact h7
              rw [e7] at c7
              exact c7
            subst hlen
            have gi : (k : Int) ≤ 6 := by have := HX.out.2.2.2.1; omega
            have gp : (0 : Int) ≤ (np : Int) := by omega
            clear hc2 c7 hnq hnp hlq hlp h7 hk hi0 hkl
            go_wp2
            exact ⟨⟨⟨k + 2, by have := HX.out.2.2.2.1; omega, congrArg (Value.int .i64) (by omega)⟩, HY.out.1⟩, by have := HX.out.2.2.2.1; show 6 - ((k : Int) + 1 + 1).toNat < 6 - (((k + 1 : Nat) : Int)).toNat; omega⟩
    · obtain rfl : i = 6 := by omega
      clear hlt hi
      go_upto_region 16 with (fail)
      obtain ⟨x, hx⟩ : ∃ x, mdf p (pks.take (nl + 1)) = x := ⟨_, rfl⟩
      obtain ⟨P, d⟩ := x
      have hB := HT.out.b
      rw [HN.out.2.2.1, hx] at hB
      have HB : Hid (OkB p (P, d)) := hB
      have hd : d = 0 := hB.er
      subst hd
      have HMD : Hid (∀ (Y : World), Below w0.heap.size w0 Y → Calls Tryz.prog 13 #[.agg #[.string p.nm, .slice a0 n0 p0, .slice a1 n1 p1, .slice al nl cv], .slice (some ⟨q + 1, 0, none⟩) (nl + 1) 6] Y fun e w' => ∃ x, e = .returned (.tuple #[.agg (vPc P x), .nilIface]) ∧ (RdP w' (.agg (vPc P x)) P ∧ Below Y.heap.size Y w')) := fun Y hY => mod_many (HE.out _ (HM0.out.on hY).ow.1).1 (HM0.out.on hY) HT.out.nm HN.out.2.2.2.1 hx
      clear hx hB
      have b5 : (nl : Int) + 1 ≤ 6 := by omega
      have b6 : (0 : Int) ≤ (nl : Int) + 1 := by omega
      go_cut [10, 11] (fun v10 v11 wx => ∃ b x, v10 = .pointer (some ⟨b, 0, none⟩) ∧ v11 = .nilIface ∧ w0.heap.size ≤ b ∧ wx.heap[b]? = some (.cells (vPc P x) 26) ∧ RdP wx (.agg (vPc P x)) P ∧ Below w0.heap.size w0 wx)
      case first =>
        as_aux_lemma =>
          refine Go.Pin.wp_region_hcls (fun Y => Below w0.heap.size w0 Y) 12 (by rfl) (by kernel_rfl) ((Below.refl _ _).drew) ?_
          intro Sq fq hNq hRq hSq
          have y0 := fun x => (HM0.out.on (hRq x)).ow.2.c0
          have y1 := fun x => (HM0.out.on (hRq x)).ow.2.c1
          have y2 := fun x => (HM0.out.on (hRq x)).ow.2.c2
          have y3 := fun x => (HM0.out.on (hRq x)).ow.2.c3
          have st0 : Below w0.heap.size w0 w0.drew := (Below.refl _ _).drew
          refine Go.Pin.takeQ 0 (by simp only [List.getElem?_toArray, List.getElem?_cons_zero, List.getElem?_cons_succ]; exact rfl) (by kernel_rfl) (by kernel_rfl) (by kernel_rfl) (by rfl) (fun _ _ d _ _ h => by cases d <;> exact h) (st0) (hSq).out (by kernel_rfl) ?_
          intro Kq hKq
          go_big_quiet_op
          go_big_quiet_on
          refine Go.Pin.takeQ 1 (by simp only [List.getElem?_toArray, List.getElem?_cons_zero, List.getElem?_cons_succ]; exact rfl) (by kernel_rfl) (by kernel_rfl) (by kernel_rfl) (by rfl) (fun _ _ d _ _ h => by cases d <;> exact h) (st0) (hSq).out (by kernel_rfl) ?_
          intro Kq hKq
          go_big_quiet_op
          go_big_quiet_on
          refine Go.Pin.takeQ 2 (by simp only [List.getElem?_toArray, List.getElem?_cons_zero, List.getElem?_cons_succ]; exact rfl) (by kernel_rfl) (by kernel_rfl) (by kernel_rfl) (by rfl) (fun _ _ d _ _ h => by cases d <;> exact h) (st0) (hSq).out (by kernel_rfl) ?_
          intro Kq hKq
          go_big_quiet_op
          go_big_quiet_on
          refine Go.Pin.takeQ 3 (by simp only [List.getElem?_toArray, List.getElem?_cons_zero, List.getElem?_cons_succ]; exact rfl) (by kernel_rfl) (by kernel_rfl) (by kernel_rfl) (by rfl) (fun _ _ d _ _ h => by cases d <;> exact h) (st0) (hSq).out (by kernel_rfl) ?_
          intro Kq hKq
          go_big_quiet_op
          go_big_quiet_on
          refine Go.Pin.takeQ 4 (by simp only [List.getElem?_toArray, List.getElem?_cons_zero, List.getElem?_cons_succ]; exact rfl) (by kernel_rfl) (by kernel_rfl) (by kernel_rfl) (by rfl) (fun _ _ d _ _ h => by cases d <;> exact h) (st0) (hSq).out (by kernel_rfl) ?_
          intro Kq hKq
          go_big_quiet_op
          go_big_quiet_on
          obtain ⟨wd, hwd⟩ : ∃ wd, w0.drew = wd := ⟨_, rfl⟩
          rw [hwd] at st0
          rw [hwd]
          have CW := HMD.out wd st0
          have hsa : Below wd.heap.size wd (wd.alloc (.cells zPR 26)) := (Below.refl _ _).alloc (Nat.le_refl _) _
          have sta : Below w0.heap.size w0 (wd.alloc (.cells zPR 26)) := st0.trans (hsa.mono st0.size)
          have hra : (wd.alloc (.cells zPR 26)).heap[wd.heap.size]? = some (.cells zPR 26) := heap_alloc_new _ _
          have CV := HMD.out _ sta
          refine Go.Pin.readyQ2 5 9 (by simp only [List.getElem?_toArray, List.getElem?_cons_zero, List.getElem?_cons_succ]; exact rfl) (by simp only [List.getElem?_toArray, List.getElem?_cons_zero, List.getElem?_cons_succ]; exact rfl) (by kernel_rfl) (by kernel_rfl) (by kernel_rfl) ?_ ?_
          · intro K hK
            refine wpCallX (d := some 124) (v := fun x => .tuple #[.agg (vPc P x), .nilIface]) rfl rfl (args := #[.agg #[.string p.nm, .slice a0 n0 p0, .slice a1 n1 p1, .slice al nl cv], .slice (some ⟨q + 1, 0, none⟩) (nl + 1) 6]) (by simp only [List.map_toArray, List.map_cons, List.map_nil]; rfl) (fun _ => rfl) CW (fun x w7 h7 => ?_)
            have st7 : Below w0.heap.size w0 w7 := st0.trans (h7.2.mono st0.size)
            refine hK _ _ st7 ?_
            simp only [Act.put, List.setIfInBounds_toArray, List.set_cons_zero, List.set_cons_succ]
            clear hK K CW CV
            refine Go.Pin.takeQ 6 (by simp only [List.getElem?_toArray, List.getElem?_cons_zero, List.getElem?_cons_succ]; exact rfl) (by kernel_rfl) (by kernel_rfl) (by kernel_rfl) (by rfl) (fun _ _ d _ _ h => by cases d <;> exact h) (st7) (hSq).out (by kernel_rfl) ?_
            intro Kq hKq
            go_big_quiet_op
            go_big_quiet_on
            refine Go.Pin.takeQ 7 (by simp only [List.getElem?_toArray, List.getElem?_cons_zero, List.getElem?_cons_succ]; exact rfl) (by kernel_rfl) (by kernel_rfl) (by kernel_rfl) (by rfl) (fun _ _ d _ _ h => by cases d <;> exact h) (st7) (hSq).out (by kernel_rfl) ?_
            intro Kq hKq
            go_big_quiet_op
            go_big_quiet_on
            refine Go.Pin.takeQ 8 (by simp only [List.getElem?_toArray, List.getElem?_cons_zero, List.getElem?_cons_succ]; exact rfl) (by kernel_rfl) (by kernel_rfl) (by kernel_rfl) (by rfl) (fun _ _ d _ _ h => by cases d <;> exact h) (st7) (hSq).out (by kernel_rfl) ?_
            intro Kq hKq
            go_big_quiet_op
            go_big_quiet_on
            have hst8 : Below w7.heap.size w7 (w7.alloc (.cells zPR 26)) := (Below.refl _ _).alloc (Nat.le_refl _) _
            have st8 : Below w0.heap.size w0 (w7.alloc (.cells zPR 26)) := st7.trans (hst8.mono st7.size)
            have hrow8 : (w7.alloc (.cells zPR 26)).heap[w7.heap.size]? = some (.cells zPR 26) := heap_alloc_new _ _
            have hle8 : w0.heap.size ≤ w7.heap.size := st7.size
            have hrd8 := h7.1.below hst8
            refine Go.Pin.readyQ 9 (by simp only [List.getElem?_toArray, List.getElem?_cons_zero, List.getElem?_cons_succ]; exact rfl) (by kernel_rfl) (by kernel_rfl) ?_
            intro K hK
            refine wpRun (d := some 10) (v := .pointer (some ⟨w7.heap.size, 0, none⟩)) (w' := w7.alloc (.cells zPR 26)) rfl (by unfold execOp; go_simp) (hK _ _ st8 ?_)
            simp only [Act.put, List.setIfInBounds_toArray, List.set_cons_zero, List.set_cons_succ]
            clear hK K
            refine Go.Pin.readyQ 10 (by simp only [List.getElem?_toArray, List.getElem?_cons_zero, List.getElem?_cons_succ]; exact rfl) (by kernel_rfl) (by kernel_rfl) ?_
            intro K hK
            refine wp_store_row 26 (.tmp 10) (.tmp 125) rfl w7.heap.size (vPc P x) rfl rfl 26 zPR hrow8 (ipR _ _ _ _) rfl (by simp [vPc, Value.oneCell']) ?_
            have stz : Below w0.heap.size w0 ((w7.alloc (.cells zPR 26)).setRow w7.heap.size (vPc P x)) := Go.Pin.below_setRow st8 _ hle8 _
            refine hK _ _ stz ?_
            simp only [Act.put, List.setIfInBounds_toArray, List.set_cons_zero, List.set_cons_succ]
            clear hK K
            have hrd : RdP ((w7.alloc (.cells zPR 26)).setRow w7.heap.size (vPc P x)) (.agg (vPc P x)) P := hrd8.box hrow8
            have hrw : ((w7.alloc (.cells zPR 26)).setRow w7.heap.size (vPc P x)).heap[w7.heap.size]? = some (.cells (vPc P x) 26) := setRow_heap _ _ _ _ _ _ hrow8
            have hle : w0.heap.size ≤ w7.heap.size := hle8
            refine Go.Pin.takeQ 11 (by simp only [List.getElem?_toArray, List.getElem?_cons_zero, List.getElem?_cons_succ]; exact rfl) (by kernel_rfl) (by kernel_rfl) (by kernel_rfl) (by rfl) (fun _ _ d _ _ h => by cases d <;> exact h) (stz) (hSq).out (by kernel_rfl) ?_
            intro Kq hKq
            go_big_quiet_op
            go_big_quiet_on
            refine wpAnyH_done (by kernel_rfl) ?_ _
            go_wp2_with fail
            go_meet
            exact ⟨_, x, rfl, rfl, hle, hrw, hrd, stz⟩
          · intro K hK
            refine wpRun (d := some 10) (v := .pointer (some ⟨wd.heap.size, 0, none⟩)) (w' := wd.alloc (.cells zPR 26)) rfl (by unfold execOp; go_simp) (hK _ _ sta ?_)
            simp only [Act.put, List.setIfInBounds_toArray, List.set_cons_zero, List.set_cons_succ]
            clear hK K
            have hlea : w0.heap.size ≤ wd.heap.size := st0.size
            obtain ⟨ga, hga⟩ : ∃ ga, wd.heap.size = ga := ⟨_, rfl⟩
            obtain ⟨wa, hwa⟩ : ∃ wa, wd.alloc (.cells zPR 26) = wa := ⟨_, rfl⟩
            rw [hwa] at sta CV
            rw [hwa, hga] at hra
            rw [hga] at hlea
            rw [hwa, hga]
            refine Go.Pin.readyQ 5 (by simp only [List.getElem?_toArray, List.getElem?_cons_zero, List.getElem?_cons_succ]; exact rfl) (by kernel_rfl) (by kernel_rfl) ?_
            intro K hK
            refine wpCallX (d := some 124) (v := fun x => .tuple #[.agg (vPc P x), .nilIface]) rfl rfl (args := #[.agg #[.string p.nm, .slice a0 n0 p0, .slice a1 n1 p1, .slice al nl cv], .slice (some ⟨q + 1, 0, none⟩) (nl + 1) 6]) (by simp only [List.map_toArray, List.map_cons, List.map_nil]; rfl) (fun _ => rfl) CV (fun x w8 h8 => ?_)
            have st8 : Below w0.heap.size w0 w8 := sta.trans (h8.2.mono sta.size)
            have hrow8 : w8.heap[ga]? = some (.cells zPR 26) := (h8.2.block _ (Array.getElem?_eq_some_iff.1 hra).1).trans hra
            refine hK _ _ st8 ?_
            simp only [Act.put, List.setIfInBounds_toArray, List.set_cons_zero, List.set_cons_succ]
            clear hK K CW CV
            refine Go.Pin.takeQ 6 (by simp only [List.getElem?_toArray, List.getElem?_cons_zero, List.getElem?_cons_succ]; exact rfl) (by kernel_rfl) (by kernel_rfl) (by kernel_rfl) (by rfl) (fun _ _ d _ _ h => by cases d <;> exact h) (st8) (hSq).out (by kernel_rfl) ?_
            intro Kq hKq
            go_big_quiet_op
            go_big_quiet_on
            refine Go.Pin.takeQ 7 (by simp only [List.getElem?_toArray, List.getElem?_cons_zero, List.getElem?_cons_succ]; exact rfl) (by kernel_rfl) (by kernel_rfl) (by kernel_rfl) (by rfl) (fun _ _ d _ _ h => by cases d <;> exact h) (st8) (hSq).out (by kernel_rfl) ?_
            intro Kq hKq
            go_big_quiet_op
            go_big_quiet_on
            refine Go.Pin.takeQ 8 (by simp only [List.getElem?_toArray, List.getElem?_cons_zero, List.getElem?_cons_succ]; exact rfl) (by kernel_rfl) (by kernel_rfl) (by kernel_rfl) (by rfl) (fun _ _ d _ _ h => by cases d <;> exact h) (st8) (hSq).out (by kernel_rfl) ?_
            intro Kq hKq
            go_big_quiet_op
            go_big_quiet_on
            refine Go.Pin.readyQ 10 (by simp only [List.getElem?_toArray, List.getElem?_cons_zero, List.getElem?_cons_succ]; exact rfl) (by kernel_rfl) (by kernel_rfl) ?_
            intro K hK
            refine wp_store_row 26 (.tmp 10) (.tmp 125) rfl ga (vPc P x) rfl rfl 26 zPR hrow8 (ipR _ _ _ _) rfl (by simp [vPc, Value.oneCell']) ?_
            have stz : Below w0.heap.size w0 (w8.setRow ga (vPc P x)) := Go.Pin.below_setRow st8 _ hlea _
            refine hK _ _ stz ?_
            simp only [Act.put, List.setIfInBounds_toArray, List.set_cons_zero, List.set_cons_succ]
            clear hK K
            have hrd : RdP (w8.setRow ga (vPc P x)) (.agg (vPc P x)) P := h8.1.box hrow8
            have hrw : (w8.setRow ga (vPc P x)).heap[ga]? = some (.cells (vPc P x) 26) := setRow_heap _ _ _ _ _ _ hrow8
            have hle : w0.heap.size ≤ ga := hlea
            refine Go.Pin.takeQ 11 (by simp only [List.getElem?_toArray, List.getElem?_cons_zero, List.getElem?_cons_succ]; exact rfl) (by kernel_rfl) (by kernel_rfl) (by kernel_rfl) (by rfl) (fun _ _ d _ _ h => by cases d <;> exact h) (stz) (hSq).out (by kernel_rfl) ?_
            intro Kq hKq
            go_big_quiet_op
            go_big_quiet_on
            refine wpAnyH_done (by kernel_rfl) ?_ _
            go_wp2_with fail
            go_meet
            exact ⟨_, x, rfl, rfl, hle, hrw, hrd, stz⟩
      obtain ⟨b, x, rfl, rfl, hle, hrw, hrd, hbl⟩ := hcut
      obtain ⟨x, hxx⟩ : ∃ y, y = x := ⟨_, rfl⟩
      subst hxx
      have hMc := HM0.out.on hbl
      have hqb : q + 1 < b := by have := (Array.getElem?_eq_some_iff.1 HM0.out.ps).1; omega
      have HC : Hid (MW q W (.slice a0 n0 p0) (.slice a1 n1 p1) (.slice al nl cv) p wc ∧ wc.heap[b]? = some (.cells (vPc P x) 26) ∧ RdP wc (.agg (vPc P x)) P ∧ q + 1 < b) := ⟨hMc, hrw, hrd, hqb⟩
      have CT := count_any _ P (-1) 7 wc hrd HB.out.sh
      rw [show cntP P (-1) 7 = nl + 1 from by rw [← HN.out.2.2.1]; exact HB.out.ct, Int.natCast_succ] at CT
      obtain ⟨e0, f0, e1, f1, e2, f2⟩ := x
      simp only [vPc] at CT hrw
      have k0 := cell_of_row wc b 0 _ _ _ hrw
      have k1 := cell_of_row wc b 1 _ _ _ hrw
      have k2 := cell_of_row wc b 2 _ _ _ hrw
      have k3 := cell_of_row wc b 3 _ _ _ hrw
      simp at k0 k1 k2 k3
      have hnn : (((nl : Int) + 1) == ((nl : Int) + 1)) = true := by simp
      have hnm : (((nl : Int) + 1) != ((nl : Int) + 1)) = false := by simp
      clear hle hrw hrd hbl hMc hqb HMD b5 b6
      go_upto_region 19 with (go_at_call 40; refine CT.mono ?_; rintro e w18 ⟨rfl, hb⟩; have H18 : Hid (MW q W (.slice a0 n0 p0) (.slice a1 n1 p1) (.slice al nl cv) p w18 ∧ w18.heap[b]? = some (.cells (vPc P (e0, f0, e1, f1, e2, f2)) 26)) := ⟨HC.out.1.on hb, (hb.block _ (Array.getElem?_eq_some_iff.1 HC.out.2.1).1).trans HC.out.2.1⟩; clear hb CT k0 k1 k2 k3)
      clear hnn hnm
      obtain ⟨x, hx⟩ : ∃ x, mdf p [fbW] = x := ⟨_, rfl⟩
      obtain ⟨P2, d2⟩ := x
      obtain ⟨ev2, hev2⟩ : ∃ ev, EV ea d2 = ev := ⟨_, rfl⟩
      have ha : Below w18.heap.size w18 (w18.alloc (.cells #[.string fbW] 9)) := (Below.refl _ _).alloc (Nat.le_refl _) _
      have hM19 := H18.out.1.on ha
      have hb19 : (w18.alloc (.cells #[.string fbW] 9)).heap[b]? = some (.cells (vPc P (e0, f0, e1, f1, e2, f2)) 26) := (ha.block _ (Array.getElem?_eq_some_iff.1 H18.out.2).1).trans H18.out.2
      have CM := mod_one (g := w18.heap.size) (HE.out _ hM19.ow.1).1 hM19.ow.2.rd HT.out.nm (show fbW.size ≤ 100 by decide) (heap_alloc_new _ _) hx hev2
      have H19 : Hid (MW q W (.slice a0 n0 p0) (.slice a1 n1 p1) (.slice al nl cv) p (w18.alloc (.cells #[.string fbW] 9)) ∧ (w18.alloc (.cells #[.string fbW] 9)).heap[b]? = some (.cells (vPc P (e0, f0, e1, f1, e2, f2)) 26)) := ⟨hM19, hb19⟩
      have HX2 : Hid (mdf p [fbW] = (P2, d2) ∧ EV ea d2 = ev2) := ⟨hx, hev2⟩
      have y0 := H18.out.1.ow.2.c0
      have y1 := H18.out.1.ow.2.c1
      have y2 := H18.out.1.ow.2.c2
      have y3 := H18.out.1.ow.2.c3
      clear ha hM19 hb19 hx hev2
      go_wp2_with (first
        | (go_at_call 13; refine CM.mono ?_; rintro e w20 ⟨x, rfl, hr, hb⟩; have H20 : Hid (MW q W (.slice a0 n0 p0) (.slice a1 n1 p1) (.slice al nl cv) p w20 ∧ w20.heap[b]? = some (.cells (vPc P (e0, f0, e1, f1, e2, f2)) 26) ∧ RdP w20 (.agg (vPc P2 x)) P2) := ⟨H19.out.1.on hb, (hb.block _ (Array.getElem?_eq_some_iff.1 H19.out.2).1).trans H19.out.2, hr⟩; clear hb hr CM y0 y1 y2 y3)
        | (with_reducible refine at_list ?_; refine hold_store 26 (.tmp 10) (.tmp 140) rfl ?_))
      refine wpList_store_row rfl 26 (.tmp 10) (.tmp 140) rfl b (vPc P2 x) rfl rfl 26 (vPc P (e0, f0, e1, f1, e2, f2)) H20.out.2.1 (ipR _ _ _ _) rfl (by simp [vPc, Value.oneCell']) ?_
      have hqb := HC.out.2.2.2
      have hq21 : ∀ k, k ≠ b → (w20.setRow b (vPc P2 x)).heap[k]? = w20.heap[k]? := fun k hk => setRow_other w20 b k _ hk
      have hM21 : MW q W (.slice a0 n0 p0) (.slice a1 n1 p1) (.slice al nl cv) p (w20.setRow b (vPc P2 x)) := ⟨⟨Go.Pin.below_setRow H20.out.1.ow.1 _ (by omega) _, (hq21 _ (by omega)).trans H20.out.1.ow.2.row, H20.out.1.ow.2.rd.box2 H20.out.2.1⟩, (hq21 _ (by omega)).trans H20.out.1.ps⟩
      have hB21 : (w20.setRow b (vPc P2 x)).heap[b]? = some (.cells (vPc P2 x) 26) := setRow_heap _ _ _ _ _ _ H20.out.2.1
      have hr21 : RdP (w20.setRow b (vPc P2 x)) (.agg (vPc P2 x)) P2 := H20.out.2.2.box2 H20.out.2.1
      obtain ⟨w21, hw21⟩ : ∃ w, w20.setRow b (vPc P2 x) = w := ⟨_, rfl⟩
      rw [hw21] at hM21 hB21 hr21 ⊢
      have H21 : Hid (MW q W (.slice a0 n0 p0) (.slice a1 n1 p1) (.slice al nl cv) p w21 ∧ w21.heap[b]? = some (.cells (vPc P2 x) 26) ∧ RdP w21 (.agg (vPc P2 x)) P2) := ⟨hM21, hB21, hr21⟩
      clear hqb hq21 hM21 hB21 hr21 hw21 H20 H19 H18
      as_aux_lemma =>
        obtain ⟨bp, op, ap, np, cp, hal, hcp, hnp, hlp⟩ := lines_at H21.out.1.ow.2.rd 0 (by have := HN.out; omega)
        subst hal
        simp only [Nat.zero_mul, Nat.add_zero] at hcp
        have hpos : 0 < np := by rw [hlp]; exact HT.out.l0
        obtain ⟨b2, o2, ha2, ht0⟩ := hnp.at.2.2 0 hpos
        subst ha2
        have t0c := ht0 w21 (Below.refl _ _)
        simp only [Nat.add_zero] at t0c
        have ht1 : 1 < np → w21.cell? ⟨b2, o2 + 1, none⟩ = some (.int .i64 ((p.ln.getD 0 (0, [])).2.getD 1 0)) := fun h1 => by
          obtain ⟨b3, o3, e, hc⟩ := hnp.at.2.2 1 h1
          injection e with e
          injection e with e1 e2
          subst e1 e2
          exact hc w21 (Below.refl _ _)
        have y3 := H21.out.1.ow.2.c3
        have bnp : (np : Int) > 0 := by omega
        have bl0 : (0 : Int) < nl := by omega
        have b24 : (np : Int) ≤ 24 := by
          have h1 := (shaped_all (chk_shaped HT.out.ck)).2.2.2.2 (p.ln.getD 0 (0, [])) (by
            have hj : 0 < p.ln.length := by have := HN.out; omega
            rw [show p.ln.getD 0 (0, []) = p.ln[0] by simp [List.getD, hj]]
            exact List.getElem_mem _)
          have h2 := h1.2.2.1
          omega
        obtain ⟨u, hu⟩ : ∃ u, (p.ln.getD 0 (0, [])).2.getD 0 0 = u := ⟨_, rfl⟩
        obtain ⟨u2, hu2⟩ : ∃ u, (p.ln.getD 0 (0, [])).2.getD 1 0 = u := ⟨_, rfl⟩
        rw [hu] at t0c
        rw [hu2] at ht1
        have HTK : Hid ((lnT p 0).getD 0 0 = u ∧ (lnT p 0).getD 1 0 = u2 ∧ (lnT p 0).length = np) := ⟨hu, hu2, hlp.symm⟩
        clear hu hu2 hlp hnp ht0
        go_upto_region 21 with (fail)
        clear y3 hcp
        go_cut [13] (fun v13 wx => v13 = .bool (mayF p) ∧ wx = w21)
        case first =>
          as_aux_lemma =>
            by_cases c1 : u = 1
            case neg =>
              have HV : Hid (mayF p = false) := by show mayF p = false; unfold mayF; rw [HTK.out.1]; simp [c1]
              have g1 : (u == 1) = false := by simpa using c1
              have g2 : decide (u = 1) = false := by simpa using c1
              have HU : Hid (¬ u = 1) := c1
              clear c1 ht1
              go_wp2
              go_meet
              exact ⟨congrArg Value.bool HV.out.symm, rfl⟩
            subst c1
            by_cases c2 : np = 1
            case pos =>
              have HV : Hid (mayF p = true) := by show mayF p = true; unfold mayF; rw [HTK.out.1, HTK.out.2.2]; simp [c2]
              have g1 : ((np : Int) == 1) = true := by simp [c2]
              have g2 : decide ((np : Int) = 1) = true := by simp [c2]
              have HU : Hid (np = 1) := c2
              clear c2 ht1
              go_wp2
              go_meet
              exact ⟨congrArg Value.bool HV.out.symm, rfl⟩
            have g1 : ((np : Int) == 1) = false := by simp; omega
            have g2 : decide ((np : Int) = 1) = false := by simp; omega
            by_cases c3 : np = 2
            case neg =>
              have HV : Hid (mayF p = false) := by show mayF p = false; unfold mayF; rw [HTK.out.1, HTK.out.2.2]; simp [c2, c3]
              have g3 : ((np : Int) == 2) = false := by simp; omega
              have g4 : decide ((np : Int) = 2) = false := by simp; omega
              have HU : Hid (¬ np = 1 ∧ ¬ np = 2) := ⟨c2, c3⟩
              clear c2 c3 ht1
              go_wp2
              go_meet
              exact ⟨congrArg Value.bool HV.out.symm, rfl⟩
            have g3 : ((np : Int) == 2) = true := by simp; omega
            have g4 : decide ((np : Int) = 2) = true := by simp; omega
            have t1c := ht1 (by omega)
            have g5 : (1 : Int) < np := by omega
            by_cases c4 : u2 = 2
            · have HV : Hid (mayF p = true) := by show mayF p = true; unfold mayF; rw [HTK.out.1, HTK.out.2.2, HTK.out.2.1]; simp [c2, c3, c4]
              have g6 : (u2 == 2) = true := by simpa using c4
              have g7 : decide (u2 = 2) = true := by simpa using c4
              have HU : Hid (np = 2 ∧ u2 = 2) := ⟨c3, c4⟩
              clear c2 c3 c4 ht1
              go_wp2
              go_meet
              exact ⟨congrArg Value.bool HV.out.symm, rfl⟩
            · have HV : Hid (mayF p = false) := by show mayF p = false; unfold mayF; rw [HTK.out.1, HTK.out.2.2, HTK.out.2.1]; simp [c2, c3, c4]
              have g6 : (u2 == 2) = false := by simpa using c4
              have g7 : decide (u2 = 2) = false := by simpa using c4
              have HU : Hid (np = 2 ∧ ¬ u2 = 2) := ⟨c3, c4⟩
              clear c2 c3 c4 ht1
              go_wp2
              go_meet
              exact ⟨congrArg Value.bool HV.out.symm, rfl⟩
        obtain ⟨rfl, hwc⟩ := hcut
        obtain rfl : w21 = wc := hwc.symm
        clear t0c ht1
        as_aux_lemma =>
          obtain ⟨mb, hmb⟩ : ∃ mb, mayF p = mb := ⟨_, rfl⟩
          rw [hmb]
          cases mb with
          | false =>
            have hd : d2 = 1 := by have := HT.out.d hmb; rw [HX2.out.1] at this; exact this
            have hev := HX2.out.2
            rw [hd, EV_ne (by decide)] at hev
            subst hev
            have ce := ((HE.out _ H21.out.1.ow.1).1.1 1 (by decide)).1
            simp only [eblk] at ce
            have hee := eq_err (HE.out _ H21.out.1.ow.1).1 (c := 1) (d := 1) (by decide) (by decide)
            simp only [decide_true] at hee
            clear hd hmb
            go_wp2
            go_ret
            exact ⟨rfl, H21.out.1.ow.1⟩
          | true =>
            have hC := HT.out.c hmb
            rw [HX2.out.1] at hC
            have hev := HX2.out.2
            rw [show d2 = 0 from hC.er, EV_0] at hev
            subst hev
            have HCC : Hid (OkC p (P2, d2)) := hC
            obtain ⟨x0, z0, x1, z1, x2, z2⟩ := x
            have hrow := H21.out.2.1
            have hrd := H21.out.2.2
            simp only [vPc] at hrow hrd
            obtain ⟨bq, oq, ha, hfr⟩ := lines_from hrd 0 hC.l0
            subst ha
            simp only [Nat.zero_mul, Nat.add_zero] at hfr
            rw [show (P2.ln.getD 0 (0, [])).1 = 1 from hC.fr] at hfr
            obtain ⟨bb, ob, ha, hb0⟩ := before_at hrd 0 (by rw [show P2.b0.length = p.b0.length + (lnT p 0).length from hC.bl, HTK.out.2.2]; omega)
            subst ha
            simp only [Nat.add_zero] at hb0
            rw [show P2.b0.getD 0 0 = 1 from hC.b0] at hb0
            have CT := count_any _ P2 0 1 w21 hrd hC.sh
            rw [show cntP P2 0 1 = 1 from hC.ct] at CT
            obtain ⟨L2, hL2⟩ : ∃ L, P2.ln.length = L := ⟨_, rfl⟩
            obtain ⟨B2, hB2⟩ : ∃ B, P2.b0.length = B := ⟨_, rfl⟩
            have hl1 : (nl : Int) - 1 = L2 := by have h1 : P2.ln.length + 1 = p.ln.length := hC.ln; have := HN.out; omega
            have hb1 : (n0 : Int) + np = B2 := by have h1 : P2.b0.length = p.b0.length + (lnT p 0).length := hC.bl; have := HN.out; have := HTK.out.2.2; omega
            have hnm : P2.nm = p.nm ++ ⟨#[102, 97, 108, 108, 98, 97, 99, 107]⟩ := hC.nm
            rw [hL2, hB2, hnm] at hrow CT
            have hz1 : p.nm.size ≤ 100 := HT.out.nm
            have k0 := cell_of_row w21 b 0 _ _ _ hrow
            have k1 := cell_of_row w21 b 1 _ _ _ hrow
            have k2 := cell_of_row w21 b 2 _ _ _ hrow
            have k3 := cell_of_row w21 b 3 _ _ _ hrow
            simp only [List.getElem?_toArray, List.getElem?_cons_zero, List.getElem?_cons_succ] at k0 k1 k2 k3
            have HRW : Hid (w21.heap[b]? = some (.cells #[.string (p.nm ++ ⟨#[102, 97, 108, 108, 98, 97, 99, 107]⟩), .slice (some ⟨bb, ob, none⟩) B2 z0, .slice x1 P2.b1.length z1, .slice (some ⟨bq, oq, none⟩) L2 z2] 26)) := hrow
            have y0 := H21.out.1.ow.2.c0
            have y1 := H21.out.1.ow.2.c1
            have l20 : (0 : Int) < L2 := by have := hC.l0; simp only at this; omega
            have bb0 : (0 : Int) < B2 := by omega
            have htt : ((p.nm ++ ⟨#[102, 97, 108, 108, 98, 97, 99, 107]⟩ : ByteArray).toList == (p.nm ++ ⟨#[102, 97, 108, 108, 98, 97, 99, 107]⟩ : ByteArray).toList) = true := by simp
            have hLL : ((L2 : Int) == (nl : Int) - 1) = true := by rw [hl1]; simp
            have hLD : decide ((L2 : Int) = (nl : Int) - 1) = true := by rw [hl1]; simp
            have hBB : ((B2 : Int) == (n0 : Int) + np) = true := by rw [hb1]; simp
            have hBD : decide ((B2 : Int) = (n0 : Int) + np) = true := by rw [hb1]; simp
            have bn0 : (n0 : Int) ≤ 24 := by have := (shaped_all (chk_shaped HT.out.ck)).1; have := HN.out; omega
            have HLB : Hid ((nl : Int) - 1 = L2 ∧ (n0 : Int) + np = B2) := ⟨hl1, hb1⟩
            clear hC hrow hrd hL2 hB2 hnm hmb hl1 hb1
            go_wp2_with (go_at_call 40; refine CT.mono ?_; rintro e w22 ⟨rfl, hb⟩; have hM := H21.out.1.on hb; have h22 := (hb.block _ (Array.getElem?_eq_some_iff.1 HRW.out).1).trans HRW.out; have j1 := cell_of_row w22 b 1 _ _ _ h22; simp only [List.getElem?_toArray, List.getElem?_cons_zero, List.getElem?_cons_succ] at j1; have j2 := hM.ow.2.c1; have j3 := cell_below hb hb0; have H22 : Hid (Below q W w22) := hM.ow.1; clear hM h22 hb CT k0 k1 k2 k3 y0 y1 hb0 hfr)
            go_ret
            exact ⟨rfl, H22.out⟩
end Go.Proofs.YtmlcgcmoioekpabGreatDoor
