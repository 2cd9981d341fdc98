import Derived.Test.YtpfidohkohldaaaGreatDoorMqbk
import Derived.Test.YtpfidohkohldaaaGreatDoorMqbl
namespace Go.Proofs.YtpfidohkohldaaaGreatDoor
set_option linter.unusedSimpArgs false
set_option linter.unusedVariables false
set_option maxRecDepth 100000
open Go.ChangeShapes Go.WideShapes Go.ChangeAt Go.RowKit Go.Pin Go.Pat Go.Deep
theorem PB.low {q n : Nat} {w wr w' : World} {nm : ByteArray} {v0 v1 vl : Value} (h : PB q w nm v0 v1 vl wr) (hb : Below n wr w') (hn : q < n) : PB q w nm v0 v1 vl w' :=
  ⟨h.old.trans (hb.mono (by omega)), Nat.lt_of_lt_of_le h.lt hb.size, (hb.block q hn).trans h.row⟩
/-- the pattern that came in and its copy, each in a box, all below E -/
structure PW (q E : Nat) (W : World) (nm : ByteArray) (v0 v1 vl : Value) (g9 : Nat) (u0 u1 ul : Value) (p : Pt) (f9 : List Lv) (l9 h9 : Nat) (y : World) : Prop where
  pb : PB q W nm v0 v1 vl y
  ab : AB g9 u0 u1 ul p f9 l9 h9 y
  hq : q < E
  hg : g9 < E
  hh : h9 ≤ E
section
variable {q E n : Nat} {W : World} {nm : ByteArray} {v0 v1 vl : Value} {g9 : Nat} {u0 u1 ul : Value} {p : Pt} {f9 : List Lv} {l9 h9 : Nat} {y y' : World}
theorem PW.low (h : PW q E W nm v0 v1 vl g9 u0 u1 ul p f9 l9 h9 y) (hb : Below n y y') (hn : E ≤ n) : PW q E W nm v0 v1 vl g9 u0 u1 ul p f9 l9 h9 y' := by
  have h1 := h.hq
  have h2 := h.hg
  have h3 := h.hh
  exact ⟨h.pb.low hb (by omega), ⟨(hb.block g9 (by omega)).trans h.ab.row, h.ab.ok.keep (fun k _ hk => hb.block k (by omega)) hb.size⟩, h1, h2, h3⟩
end
theorem copied_own (v : Value) (p : Pt) (W : World) (hR : RdP W v p) (h : p.b0.length ≤ 100000 ∧ p.b1.length ≤ 100000 ∧ p.ln.length ≤ 100000 ∧ ∀ x ∈ p.ln, x.2.length ≤ 100000) :
    Calls Tryz.prog 6 #[v] W fun e w' => ∃ v0 v1 vl, e = .returned (.agg #[.string p.nm, v0, v1, vl]) ∧ (∃ fs, OwI W.heap.size w'.heap.size v0 v1 vl p fs w') ∧ Below W.heap.size W w' :=
  (copied_any v p W hR h.1 h.2.1 h.2.2.1 h.2.2.2).mono fun e w' ⟨v0, v1, l, fs, he, hl, ho, hs, hb⟩ => by
    obtain ⟨fs', hq⟩ := owq_owp (OwP.dn (b := W.heap.size) ⟨fs, hl, ho, hs⟩ (by omega))
    exact ⟨v0, v1, l, he, ⟨fs', OwI.ofP hq hb.size⟩, hb⟩
theorem Sz.big {p : Pt} (h : Sz p) : p.b0.length ≤ 100000 ∧ p.b1.length ≤ 100000 ∧ p.ln.length ≤ 100000 ∧ ∀ x ∈ p.ln, x.2.length ≤ 100000 := by
  obtain ⟨a, b, c, d⟩ := h
  exact ⟨by omega, by omega, by omega, fun x hx => by have := d x hx; omega⟩
theorem sml_big {p : Pt} (h : Sml p) : p.b0.length ≤ 100000 ∧ p.b1.length ≤ 100000 ∧ p.ln.length ≤ 100000 ∧ ∀ x ∈ p.ln, x.2.length ≤ 100000 := by
  obtain ⟨a, b, c, _, d⟩ := h
  refine ⟨by omega, by omega, by omega, fun x hx => ?_⟩
  obtain ⟨j, hj⟩ := List.getElem?_of_mem hx
  have := d j (List.getElem?_eq_some_iff.1 hj).1
  rw [show p.ln.getD j (0, []) = x by simp [List.getD, hj]] at this
  omega
theorem sml_rd {p : Pt} (h : Sml p) {lo hi : Nat} {v0 v1 vl : Value} {fs : List Lv} {w : World} (ho : OwI lo hi v0 v1 vl p fs w) : RdP w (.agg #[.string p.nm, v0, v1, vl]) p := by
  obtain ⟨a, b, c, d⟩ := sml_big h
  refine ho.rd (fun f hf => ?_) (by rw [← lvl_len, ho.1.1]; exact c)
  simp only [als, List.mem_cons] at hf
  rcases hf with rfl | rfl | hf
  · exact a
  · exact b
  · exact d (f.1, f.2.2) (by rw [← ho.1.1]; exact List.mem_map.2 ⟨f, hf, rfl⟩)
/-- the cells of a pattern in a row -/
theorem pcs_at : ∀ (A : List AP) (i : Nat) (a : AP), A[i]? = some a → (pcs A)[i * 4]? = some (.string a.p.nm) ∧ (pcs A)[i * 4 + 1]? = some a.v0 ∧ (pcs A)[i * 4 + 2]? = some a.v1 ∧ (pcs A)[i * 4 + 3]? = some a.vl
  | [], i, a, h => by simp at h
  | x :: A, 0, a, h => by
    simp only [List.getElem?_cons_zero, Option.some.injEq] at h
    subst h
    simp [pcs, AP.cs]
  | x :: A, i + 1, a, h => by
    have := pcs_at A i a (by simpa using h)
    have e : pcs (x :: A) = .string x.p.nm :: x.v0 :: x.v1 :: x.vl :: pcs A := by simp [pcs, AP.cs]
    rw [e, show (i + 1) * 4 = i * 4 + 1 + 1 + 1 + 1 by omega]
    simpa [List.getElem?_cons_succ] using this
theorem row_at {q : Nat} {x : Option Addr} {n c : Nat} {A : List AP} {w : World} (h : w.ownsRow q 26 4 (.slice x n c) A.length (pcs A)) {i : Nat} {a : AP} (ha : A[i]? = some a) :
    ∃ g, x = some ⟨g, 0, none⟩ ∧ w.cell? ⟨g, i * 4, none⟩ = some (.string a.p.nm) ∧ w.cell? ⟨g, i * 4 + 1, none⟩ = some a.v0 ∧ w.cell? ⟨g, i * 4 + 2, none⟩ = some a.v1 ∧ w.cell? ⟨g, i * 4 + 3, none⟩ = some a.vl := by
  obtain ⟨_, hc⟩ := own_cell h
  obtain ⟨k0, k1, k2, k3⟩ := pcs_at A i a ha
  obtain ⟨g, e, _, h0⟩ := hc _ _ k0
  obtain ⟨g1, e1, _, h1⟩ := hc _ _ k1
  obtain ⟨g2, e2, _, h2⟩ := hc _ _ k2
  obtain ⟨g3, e3, _, h3⟩ := hc _ _ k3
  rw [e] at e1 e2 e3
  injection e1 with e1
  injection e2 with e2
  injection e3 with e3
  injection e1 with e1
  injection e2 with e2
  injection e3 with e3
  subst e1 e2 e3
  exact ⟨g, e, h0, h1, h2, h3⟩
theorem row_at2 {q g : Nat} {n c : Nat} {A : List AP} {w : World} (h : w.ownsRow q 26 4 (.slice (some ⟨g, 0, none⟩) n c) A.length (pcs A)) {i : Nat} {a : AP} (ha : A[i]? = some a) :
    w.cell? ⟨g, i * 4, none⟩ = some (.string a.p.nm) ∧ w.cell? ⟨g, i * 4 + 1, none⟩ = some a.v0 ∧ w.cell? ⟨g, i * 4 + 2, none⟩ = some a.v1 ∧ w.cell? ⟨g, i * 4 + 3, none⟩ = some a.vl := by
  obtain ⟨g', e, h'⟩ := row_at h ha
  injection e with e
  injection e with e
  subst e
  exact h'
theorem row_g {q : Nat} {x : Option Addr} {n c : Nat} {A : List AP} {w : World} (h : AL q (.slice x n c) A w) (hA : A.length = 12) : ∃ g, x = some ⟨g, 0, none⟩ := by
  obtain ⟨g, e, _⟩ := row_at h.ro (i := 0) (a := A[0]'(by omega)) (List.getElem?_eq_getElem _)
  exact ⟨g, e⟩
theorem map_len {A : List AP} {K : List Pt} (h : A.map (·.p) = K) : A.length = K.length := by rw [← h]; simp
/-- what an append of a copy leaves -/
theorem AL.snoc {q : Nat} {xw : Option Addr} {zw i : Nat} {A : List AP} {K : List Pt} {Y y : World} (h : AL q (.slice xw i zw) A Y) (hm : A.map (·.p) = K.take i) (hi : i < K.length) (hK : K.length = 12) {P : Pt} (hP : K[i]? = some P) (hb : Below Y.heap.size Y y) {u0 u1 ul : Value} {fs : List Lv} (ho : OwI Y.heap.size y.heap.size u0 u1 ul P fs y) (hq : q ≤ Y.heap.size) :
    ∀ ty, ∃ v' w', (Builtin.append_ #[31, 31] ty #[.slice xw i zw, .slice (some ⟨y.heap.size, 0, none⟩) 1 1]).run Tryz.prog (y.alloc (.cells #[.string P.nm, u0, u1, ul] 26)) = .ok v' w' ∧ (∃ A', AL q v' A' w' ∧ A'.map (·.p) = K.take (i + 1)) ∧ (∃ a' c, v' = .slice a' (i + 1) c) ∧ Below q Y w' := fun ty => by
  have hl : A.length = i := by rw [map_len hm, List.length_take]; omega
  obtain ⟨v', w', hr, h1, h2, h3, h4, h5⟩ := (h.below hb).app (a := ⟨u0, u1, ul, P, fs, Y.heap.size, y.heap.size⟩) ho (fun g hg => (h.ro.lt g hg).2) (fun x hx => (h.ok x hx).hz) hq (by omega) ty
  refine ⟨v', w', hr, ⟨_, h1, ?_⟩, by rw [← hl]; exact h2, (hb.mono hq).trans h4⟩
  rw [List.map_append, hm, List.take_add_one, hP]
  rfl
/-- what is known of each of them -/
theorem map_at {A : List AP} {K : List Pt} (h : A.map (·.p) = K) {i : Nat} (hi : i < K.length) : ∃ a, A[i]? = some a ∧ K[i]? = some a.p := by
  have hl : i < A.length := by rw [← h] at hi; simpa using hi
  refine ⟨A[i], List.getElem?_eq_getElem hl, ?_⟩
  rw [← h, List.getElem?_map, List.getElem?_eq_getElem hl]
  rfl
theorem AP.sl {a : AP} {w : World} (h : a.ok w) : ∃ x0 c0 x1 c1 xl cl, a.v0 = .slice x0 a.p.b0.length c0 ∧ a.v1 = .slice x1 a.p.b1.length c1 ∧ a.vl = .slice xl a.fs.length cl := by
  obtain ⟨⟨x0, c0, h0⟩, ⟨x1, c1, h1⟩, ⟨xl, cl, hl⟩, _⟩ := h.1.sl
  exact ⟨x0, c0, x1, c1, xl, cl, h0, h1, hl⟩
theorem al_nil (q : Nat) (w : World) : AL q (.slice none 0 0) [] w :=
  ⟨⟨rfl, .inl ⟨rfl, rfl⟩⟩, fun a ha => (by cases ha), List.Pairwise.nil, fun a ha => (by cases ha), fun g hg => (by cases hg)⟩
def mk1 (i : Nat) : Int := 1000 * ((i : Int) + 1)
def mk2 (i : Nat) : Int := 1000 * ((i : Int) + 1) + 500
theorem mk_ok {i : Nat} (h : i < 12) : (0 ≤ mk1 i ∧ mk1 i ≤ 1000000) ∧ (0 ≤ mk2 i ∧ mk2 i ≤ 1000000) := by unfold mk1 mk2; omega
theorem filA_map (m : Nat → Int) (A : List AP) (i : Nat) (P : AP → Prop) (h : ∀ a ∈ A, P a ∧ ∀ t, P (a.fil (m t))) : ∀ a ∈ filA m A i, P a := fun a ha => by
  obtain ⟨j, hj⟩ := List.getElem?_of_mem ha
  have hl : j < A.length := by have := (List.getElem?_eq_some_iff.1 hj).1; rw [filA_len] at this; exact this
  rw [filA_at m A i j _ (List.getElem?_eq_getElem hl)] at hj
  injection hj with hj
  subst hj
  split
  · exact (h _ (List.getElem_mem hl)).2 _
  · exact (h _ (List.getElem_mem hl)).1
/-- fill of a pattern in a row -/
theorem fill_at {m : Nat → Int} {A : List AP} {q : Nat} {vo : Value} {w : World} {i : Nat} {a : AP} (h : AL q vo (filA m A i) w) (ha : A[i]? = some a) (hs : Sz a.p) (hm : 0 ≤ m i ∧ m i ≤ 1000000) :
    Calls Tryz.prog 9 #[.agg #[.string a.p.nm, a.v0, a.v1, a.vl], .int .i64 (m i)] w fun e w' => e = .returned (.tuple #[]) ∧ AL q vo (filA m A (i + 1)) w' ∧ Ch a.lo a.hi w w' := by
  have h1 := filA_at m A i i a ha
  rw [if_neg (Nat.lt_irrefl _)] at h1
  have hok := h.ok a (List.mem_of_getElem? h1)
  have hsz := hs.al (v0 := a.v0) (v1 := a.v1) hok.1.1
  exact (fill_any hok (by omega) (fun f hf => Nat.le_trans (hsz.2 f hf) (by decide)) hm).mono fun e w' ⟨he, ho, hc⟩ => ⟨he, h.fill ha ho hc, hc⟩
theorem AL.ch {q lo hi : Nat} {vo : Value} {A : List AP} {w w' : World} (h : AL q vo A w) (hc : Ch lo hi w w') (hq : hi ≤ q) : AL q vo A w' :=
  h.keep (fun g hg => hc.at (.inr (by have := (h.ro.lt g hg).1; omega)) (h.ro.lt g hg).2) (fun a ha k k1 k2 => hc.at (.inr (by have := h.ge a ha; omega)) (by have := (h.ok a ha).hz; omega)) hc.1.size
theorem AL.chl {q lo hi : Nat} {vo : Value} {A : List AP} {w w' : World} (h : AL q vo A w) (hc : Ch lo hi w w') (hq : ∀ a ∈ A, a.hi ≤ lo) (hv : ∀ g, vo.ownBlock = some g → g < lo) : AL q vo A w' :=
  h.keep (fun g hg => hc.at (.inl (hv g hg)) (h.ro.lt g hg).2) (fun a ha k k1 k2 => hc.at (.inl (by have := hq a ha; omega)) (by have := (h.ok a ha).hz; omega)) hc.1.size
/-- the cells of the i-th pattern of a row -/
def C4 (g i : Nat) (a : AP) (Y : World) : Prop := Y.cell? ⟨g, i * 4, none⟩ = some (.string a.p.nm) ∧ Y.cell? ⟨g, i * 4 + 1, none⟩ = some a.v0 ∧ Y.cell? ⟨g, i * 4 + 2, none⟩ = some a.v1 ∧ Y.cell? ⟨g, i * 4 + 3, none⟩ = some a.vl
theorem fil_sz2 {mk : Int} {a : AP} (hl : lvl a.fs = a.p.ln) (hs : Sz a.p) : Sz (a.fil mk).p := by
  have hf := hs.al (v0 := a.v0) (v1 := a.v1) hl
  refine ⟨by simp [AP.fil, filP]; exact hs.1, by simp [AP.fil, filP]; exact hs.2.1, by simp only [AP.fil, filP, lvl_len, filF_len]; exact hf.1, fun x hx => ?_⟩
  simp only [AP.fil, filP, lvl, filF, List.map_map, List.mem_map, List.mem_range] at hx
  obtain ⟨t, ht, rfl⟩ := hx
  simp only [Function.comp_apply, filL, List.length_replicate]
  have hm : a.fs.getD t dLv ∈ a.fs := by
    rw [List.getD_eq_getElem?_getD, List.getElem?_eq_getElem ht]
    exact List.getElem_mem ht
  exact hf.2 _ (List.mem_cons_of_mem _ (List.mem_cons_of_mem _ hm))
/-- what is known of patterns that were all written over -/
def FF (m : Nat → Int) (B : List AP) : Prop := B.length = 12 ∧ ∀ i, i < 12 → ∃ a, B[i]? = some (AP.fil (m i) a) ∧ Sz (AP.fil (m i) a).p ∧ lvl (AP.fil (m i) a).fs = (AP.fil (m i) a).p.ln
theorem ff_of {m : Nat → Int} {A : List AP} {K : List Pt} (hm : A.map (·.p) = K) (hK : K.length = 12) (hs : ∀ x ∈ K, Sz x) (hl : ∀ a ∈ A, lvl a.fs = a.p.ln) : FF m (filA m A 12) := by
  refine ⟨by rw [filA_len, map_len hm]; exact hK, fun i hi => ?_⟩
  obtain ⟨a, ha, hKa⟩ := map_at hm (i := i) (by omega)
  have h1 := filA_at m A 12 i a ha
  rw [if_pos hi] at h1
  exact ⟨a, h1, fil_sz2 (hl a (List.mem_of_getElem? ha)) (hs _ (List.mem_of_getElem? hKa)), rfl⟩
theorem grow_at {w : World} {a : AP} {mk : Int} (h : a.ok w) (hs : Sz a.p) (hm : 0 ≤ mk ∧ mk ≤ 1000000) :
    Calls Tryz.prog 10 #[.agg #[.string a.p.nm, a.v0, a.v1, a.vl], .int .i64 mk] w fun e w' => ∃ v, e = .returned v ∧ ∃ aT nT cT aL nL cL, v = .agg #[.slice aT nT cT, .slice aL nL cL] ∧ (∃ Y, GR a.lo a.hi w.heap.size w'.heap.size a.v0 a.v1 a.vl a.p a.fs mk (.slice aT nT cT) (.slice aL nL cL) Y w') ∧ Ch a.lo a.hi w w' := by
  have hsz := hs.al (v0 := a.v0) (v1 := a.v1) h.1.1
  refine (grow_any h (by omega) (fun f hf => Nat.le_trans (hsz.2 f hf) (by decide)) hm).mono ?_
  rintro e w' ⟨vT, vL, rfl, ⟨Y, hY⟩, hc⟩
  obtain ⟨aT, cT, rfl⟩ := own_slice' hY.tk
  obtain ⟨aL, cL, rfl⟩ := hY.ln.sl
  exact ⟨_, rfl, _, _, _, _, _, _, rfl, ⟨Y, hY⟩, hc⟩
theorem gg_start {q1 q2 q3 : Nat} {vo1 vo2 : Value} {B1 B2 : List AP} {m1 m2 : Nat → Int} {w : World} (h1 : AL q1 vo1 B1 w) (h2 : AL q2 vo2 B2 w) (i1 : ∀ a ∈ B1, a.hi ≤ q2) (i2 : ∀ a ∈ B2, a.hi ≤ q3) (g1 : ∀ g, vo1.ownBlock = some g → g < q2) (g2 : ∀ g, vo2.ownBlock = some g → g < q3) (hq : q2 ≤ q3) (hz : q3 ≤ w.heap.size) :
    GG q1 q2 q2 q3 w.heap.size 0 vo1 vo2 B1 B2 m1 m2 [] [] (.slice none 0 0) w :=
  ⟨h1.sg i1 g1 (by omega), h2.sg i2 g2 hz, ⟨rfl, .inl ⟨rfl, rfl⟩⟩, fun g hg => (by cases hg), fun z hz => (by cases hz), Nat.le_refl _, hz, by omega, Nat.le_refl _, Nat.le_refl _, Nat.le_refl _⟩
theorem GG.c4 {q1 E1 q2 E2 q4 n : Nat} {g1 n1 c1 g2 n2 c2 : Nat} {A1 A2 : List AP} {m1 m2 : Nat → Int} {Z1 Z2 : List ZG} {vg : Value} {w : World} (h : GG q1 E1 q2 E2 q4 n (.slice (some ⟨g1, 0, none⟩) n1 c1) (.slice (some ⟨g2, 0, none⟩) n2 c2) A1 A2 m1 m2 Z1 Z2 vg w) {i : Nat} {a b : AP} (ha : A1[i]? = some a) (hb : A2[i]? = some b) : C4 g1 i a w ∧ C4 g2 i b w := ⟨row_at2 h.s1.ro ha, row_at2 h.s2.ro hb⟩
/-- bears, of a pattern that was written over and gone on from -/
theorem bears_at {q E : Nat} {vo : Value} {A : List AP} {m : Nat → Int} {Z : List ZG} {w : World} (h : SG q E vo A m Z w) {i : Nat} {a : AP} {z : ZG} (ha : A[i]? = some (AP.fil (m i) a)) (hz : Z[i]? = some z) (hs : Sz (AP.fil (m i) a).p) (hm : 0 ≤ m i ∧ m i ≤ 1000000) :
    Calls Tryz.prog 11 #[.agg #[.string (AP.fil (m i) a).p.nm, (AP.fil (m i) a).v0, (AP.fil (m i) a).v1, (AP.fil (m i) a).vl], .agg #[z.vT, z.vL], .int .i64 (m i)] w fun e w' => e = .returned (.bool true) ∧ Below w.heap.size w w' := by
  obtain ⟨Y, hY⟩ := h.gr i _ z ha hz
  have hsz := hs.al (v0 := (AP.fil (m i) a).v0) (v1 := (AP.fil (m i) a).v1) hY.ow.1.1
  exact bears_true hY (by omega) (fun f hf => Nat.le_trans (hsz.2 f hf) (by decide)) hm (AP.fil_all (m i) a).1 (AP.fil_all (m i) a).2
/-- the cells of the i-th two of what grow answered -/
def C5 (g i : Nat) (a b : ZG) (Y : World) : Prop := Y.cell? ⟨g, 2 * i * 2, none⟩ = some a.vT ∧ Y.cell? ⟨g, 2 * i * 2 + 1, none⟩ = some a.vL ∧ Y.cell? ⟨g, (2 * i + 1) * 2, none⟩ = some b.vT ∧ Y.cell? ⟨g, (2 * i + 1) * 2 + 1, none⟩ = some b.vL
theorem GG.c5 {q1 E1 q2 E2 q4 n : Nat} {vo1 vo2 : Value} {A1 A2 : List AP} {m1 m2 : Nat → Int} {Z1 Z2 : List ZG} {x : Option Addr} {l c : Nat} {w : World} (h : GG q1 E1 q2 E2 q4 n vo1 vo2 A1 A2 m1 m2 Z1 Z2 (.slice x l c) w) (h1 : Z1.length = n) (h2 : Z2.length = n) {i : Nat} {a b : ZG} (ha : Z1[i]? = some a) (hb : Z2[i]? = some b) : ∃ g, x = some ⟨g, 0, none⟩ ∧ C5 g i a b w := by
  have hro := h.ro
  rw [List.take_of_length_le (by omega), List.take_of_length_le (by omega)] at hro
  obtain ⟨_, hc⟩ := own_cell hro
  obtain ⟨k0, k1, k2, k3⟩ := gcs_at Z1 Z2 i a b ha hb
  obtain ⟨g, e, _, h0⟩ := hc _ _ k0
  obtain ⟨g1, e1, _, h1⟩ := hc _ _ k1
  obtain ⟨g2, e2, _, h2⟩ := hc _ _ k2
  obtain ⟨g3, e3, _, h3⟩ := hc _ _ k3
  rw [e] at e1 e2 e3
  injection e1 with e1
  injection e2 with e2
  injection e3 with e3
  injection e1 with e1
  injection e2 with e2
  injection e3 with e3
  subst e1 e2 e3
  refine ⟨g, e, ?_⟩
  unfold C5
  rw [show 2 * i * 2 = i * 4 by omega, show (2 * i + 1) * 2 = i * 4 + 2 by omega, show i * 4 + 2 + 1 = i * 4 + 3 by omega]
  exact ⟨h0, h1, h2, h3⟩
theorem GG.c5' {q1 E1 q2 E2 q4 n : Nat} {vo1 vo2 : Value} {A1 A2 : List AP} {m1 m2 : Nat → Int} {Z1 Z2 : List ZG} {g l c : Nat} {w : World} (h : GG q1 E1 q2 E2 q4 n vo1 vo2 A1 A2 m1 m2 Z1 Z2 (.slice (some ⟨g, 0, none⟩) l c) w) (h1 : Z1.length = n) (h2 : Z2.length = n) {i : Nat} {a b : ZG} (ha : Z1[i]? = some a) (hb : Z2[i]? = some b) : C5 g i a b w := by
  obtain ⟨g', e, h'⟩ := h.c5 h1 h2 ha hb
  injection e with e
  injection e with e
  subst e
  exact h'
end Go.Proofs.YtpfidohkohldaaaGreatDoor
