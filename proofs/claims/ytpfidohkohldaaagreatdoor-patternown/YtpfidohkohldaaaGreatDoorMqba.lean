import Derived.Test.YtpfidohkohldaaaGreatDoorMqat
import Derived.Test.YtpfidohkohldaaaGreatDoorMqaz
/- PatternOwn: a pattern whose lists are one's own -/
namespace Go.Proofs.YtpfidohkohldaaaGreatDoor
set_option linter.unusedSimpArgs false
set_option linter.unusedVariables false
set_option maxRecDepth 100000
open Go.ChangeShapes Go.WideShapes Go.ChangeAt Go.RowKit Go.Pin Go.Pat Go.Deep
/-- the lists of a pattern, Before's and then the lines' -/
def als (v0 v1 : Value) (p : Pt) (fs : List Lv) : List Lv := (0, v0, p.b0) :: (1, v1, p.b1) :: fs
/-- its lines may begin inside their block; every list has a block of its own, from base on -/
def OwQ (base : Nat) (v0 v1 vl : Value) (p : Pt) (fs : List Lv) (w : World) : Prop :=
  lvl fs = p.ln ∧ OA 43 2 vl fs.length (lvc fs) w ∧ (∀ g, vl.ownBlock = some g → base ≤ g) ∧ OS base vl.ownBlock.toList (als v0 v1 p fs) w
theorem owq_owp {base : Nat} {v0 v1 vl : Value} {p : Pt} {w : World} (h : OwP base v0 v1 vl p w) : ∃ fs, OwQ base v0 v1 vl p fs w := by
  obtain ⟨fs, h1, h2, h3⟩ := h
  refine ⟨fs, h1, own_oa h2, fun g hg => (h2.lt g hg).1, h3⟩
theorem lvq_len (fs : List Lv) : (lvc fs).length = fs.length * 2 := by
  induction fs with
  | nil => rfl
  | cons g r ih => simp [lvc] at ih ⊢; omega
theorem lvq_get (fs : List Lv) : ∀ j, j < fs.length → (lvc fs)[j * 2]? = some (.int .i64 (fs.getD j (0, undef, [])).1) ∧ (lvc fs)[j * 2 + 1]? = some (fs.getD j (0, undef, [])).2.1 := by
  induction fs with
  | nil => intro j hj; simp at hj
  | cons g r ih =>
    intro j hj
    cases j with
    | zero => simp [lvc]
    | succ j =>
      have := ih j (by simpa using hj)
      have e : lvc (g :: r) = .int .i64 g.1 :: g.2.1 :: lvc r := by simp [lvc]
      rw [e, show (j + 1) * 2 = j * 2 + 1 + 1 by omega]
      simpa using this
theorem owq_ex {base : Nat} {v0 v1 vl : Value} {p : Pt} {fs : List Lv} {w : World} (hne : fs ≠ []) (hl : lvl fs = p.ln) (h : EX base [] [(0, v0, p.b0), (1, v1, p.b1)] fs vl w) : OwQ base v0 v1 vl p fs w := by
  obtain ⟨pre, hos, a, cap, rfl, hc, hx⟩ := h
  rcases hx with hx | ⟨g, o, cur, rfl, rfl, hg, hh, hcell, hsz⟩
  · exact absurd hx hne
  · have hcs : ∀ j, j < fs.length * 2 → cur[o + j]? = (lvc fs)[j]? := fun j hj => by
      have hj2 := lvq_get fs (j / 2) (by omega)
      have hc2 := hcell (j / 2) (by omega)
      rcases Nat.mod_two_eq_zero_or_one j with h | h
      · have e : j / 2 * 2 = j := by omega
        rw [e] at hj2 hc2
        rw [hj2.1, hc2.1]
      · have e : j / 2 * 2 + 1 = j := by omega
        rw [e] at hj2
        rw [show o + j / 2 * 2 + 1 = o + j by omega] at hc2
        rw [hj2.2, hc2.2]
    refine ⟨hl, ⟨lvq_len fs, .inr ⟨g, o, cap, cur, rfl, hh, hc, hsz, ?_⟩⟩, fun g' hg' => ?_, ?_⟩
    · apply List.ext_getElem?
      intro j
      rw [List.getElem?_take]
      by_cases hj : j < fs.length * 2
      · rw [if_pos hj, List.getElem?_drop, ← hcs j hj]; simp
      · rw [if_neg hj, List.getElem?_eq_none (by rw [lvq_len]; omega)]
    · have e : some g = some g' := hg'
      injection e with e
      omega
    · have h := hos
      simp only [List.nil_append] at h
      exact h
theorem OwQ.keep {base : Nat} {v0 v1 vl : Value} {p : Pt} {fs : List Lv} {w w' : World} (h : OwQ base v0 v1 vl p fs w) (hk : ∀ k, base ≤ k → k < w.heap.size → w'.heap[k]? = w.heap[k]?) : OwQ base v0 v1 vl p fs w' := by
  obtain ⟨h1, h2, h3, h4⟩ := h
  exact ⟨h1, h2.keep (fun g hg => hk g (h3 g hg) (h2.lt hg)), h3, h4.keep (fun k hk' => hk k (h4.lt k hk').1 (h4.lt k hk').2)⟩
theorem OwQ.below {base : Nat} {v0 v1 vl : Value} {p : Pt} {fs : List Lv} {w w' : World} (h : OwQ base v0 v1 vl p fs w) (hb : Below w.heap.size w w') : OwQ base v0 v1 vl p fs w' := h.keep (fun k _ hk => hb.block k hk)
/-- what is read -/
theorem OwQ.line {base : Nat} {v0 v1 : Value} {a : Option Addr} {n c : Nat} {p : Pt} {fs : List Lv} {w : World} (h : OwQ base v0 v1 (.slice a n c) p fs w) {j : Nat} (hj : j < fs.length) : n = fs.length ∧ ∃ g o, a = some ⟨g, o, none⟩ ∧ w.cell? ⟨g, o + j * 2, none⟩ = some (.int .i64 (fs.getD j (0, undef, [])).1) ∧ w.cell? ⟨g, o + j * 2 + 1, none⟩ = some (fs.getD j (0, undef, [])).2.1 := by
  obtain ⟨h1, h2, h3, h4⟩ := h
  have hg := lvq_get fs j hj
  obtain ⟨e1, g, o, ea, hc, _⟩ := h2.cell hg.1
  obtain ⟨_, g', o', ea', hc', _⟩ := h2.cell hg.2
  rw [ea] at ea'
  injection ea' with ea'
  injection ea' with ea1 ea2
  subst ea1 ea2
  exact ⟨e1, g, o, ea, by rw [← hc], by rw [← hc', Nat.add_assoc]⟩
theorem parts_sq : (Tryz.prog.info? 22).map (fun i => (i.zero, i.size, i.bytes)) = some (some (.slice none 0 0), 1, 24) := by kernel_rfl
theorem parts_lq : (Tryz.prog.info? 43).map (fun i => (i.zero, i.size, i.bytes)) = some (some (.agg #[.int .i64 0, .slice none 0 0]), 2, 32) := by kernel_rfl
/-- an append of m -/
theorem own_appQ {t e : TypeId} {z : Value} {k by_ : Nat} (hU : Tryz.prog.underlying t = some (.slice e)) (hI : (Tryz.prog.info? e).map (fun i => (i.zero, i.size, i.bytes)) = some (some z, k, by_)) (hz : z.cells.size = k) (hk : 0 < k)
    {w : World} {b : Nat} {v : Value} {n : Nat} {xs : List Value} (hown : w.ownsRow b e k v n xs) {a m : Nat} {news : List Value} {t' : TypeId} {fr : Nat × Nat} (hc : w.heap[a]? = some (.cells news.toArray t' fr)) (hl : news.length = m * k) (h1 : ∀ u ∈ news, u.oneCell' = true) (hn : (n + m) * by_ ≤ 140737488355328) (hn2 : n + m ≤ 140737488355328) (hb : b ≤ w.heap.size) :
    ∀ ty, ∃ v' w', (Builtin.append_ #[t, t] ty #[v, .slice (some ⟨a, 0, none⟩) m m]).run Tryz.prog w = .ok v' w' ∧ (w'.ownsRow b e k v' (n + m) (xs ++ news) ∧ w.grownBy w' v.ownBlock) := fun ty => by
  obtain ⟨i, i1, hz'⟩ := Option.map_eq_some_iff.1 hI
  simp only [Prod.mk.injEq] at hz'
  obtain ⟨i2, i3, i4⟩ := hz'
  obtain ⟨v', w', hr, h2, h3, _, h5⟩ := run_append_own_at (P := Tryz.prog) w b t ty e i z k by_ hU i1 i2 i3 i4 hz hk v n xs hown ⟨a, 0, none⟩ m m news hl (fun j u hu => by
    rw [add_mid, Nat.zero_add, cell_of_row _ _ _ _ _ _ hc, ← hu]; simp) h1 (by unfold maxLen; omega) hn hb
  exact ⟨v', w', hr, h2, h3⟩
end Go.Proofs.YtpfidohkohldaaaGreatDoor
namespace Go.Proofs.YtpfidohkohldaaaGreatDoor
set_option linter.unusedSimpArgs false
set_option linter.unusedVariables false
open Go.ChangeShapes Go.WideShapes Go.ChangeAt Go.RowKit Go.Pin Go.Pat Go.Deep
theorem als_len (v0 v1 : Value) (p : Pt) (fs : List Lv) : (als v0 v1 p fs).length = fs.length + 2 := by simp [als]
theorem OwQ.sl {base : Nat} {v0 v1 vl : Value} {p : Pt} {fs : List Lv} {w : World} (h : OwQ base v0 v1 vl p fs w) : (∃ a c, v0 = .slice a p.b0.length c) ∧ (∃ a c, v1 = .slice a p.b1.length c) ∧ (∃ a c, vl = .slice a fs.length c) ∧ ∀ f ∈ fs, ∃ a c, f.2.1 = .slice a f.2.2.length c := by
  obtain ⟨h1, h2, h3, h4⟩ := h
  have os := fun f hf => own_slice' (h4.own f hf)
  exact ⟨os (0, v0, p.b0) (by simp [als]), os (1, v1, p.b1) (by simp [als]), h2.sl, fun f hf => os f (by simp [als, hf])⟩
set_option maxRecDepth 100000 in
set_option maxHeartbeats 4000000 in
theorem lists_any {w : World} {base : Nat} {v0 v1 vl : Value} {p : Pt} {fs : List Lv} (h : OwQ base v0 v1 vl p fs w) (hn : fs.length ≤ 2000) :
    Calls Tryz.prog 21 #[.agg #[.string p.nm, v0, v1, vl]] w fun e w' => ∃ u, e = .returned u ∧ w'.ownsRow w.heap.size 22 1 u (fs.length + 2) ((als v0 v1 p fs).map (·.2.1)) ∧ Below w.heap.size w w' := by
  obtain ⟨⟨a0, c0, rfl⟩, ⟨a1, c1, rfl⟩, ⟨al, cl, rfl⟩, hfs⟩ := h.sl
  have hst := pb_start w p.nm (.slice a0 p.b0.length c0) (.slice a1 p.b1.length c1) (.slice al fs.length cl)
  have hln := fun Y (hY : Below w.heap.size w Y) j (hj : j < fs.length) => (h.below hY).line hj
  have hals : ∀ i, i ≤ fs.length → (als (.slice a0 p.b0.length c0) (.slice a1 p.b1.length c1) p fs).map (·.2.1) = ([.slice a0 p.b0.length c0, .slice a1 p.b1.length c1] ++ fs.map (·.2.1)) := fun i hi => rfl
  obtain ⟨q, hq⟩ : ∃ q, w.heap.size = q := ⟨_, rfl⟩
  obtain ⟨n0, hn0⟩ : ∃ n0, p.b0.length = n0 := ⟨_, rfl⟩
  obtain ⟨n1, hn1⟩ : ∃ n1, p.b1.length = n1 := ⟨_, rfl⟩
  obtain ⟨L, hL⟩ : ∃ L, fs.length = L := ⟨_, rfl⟩
  obtain ⟨nm, hnm⟩ : ∃ nm, p.nm = nm := ⟨_, rfl⟩
  simp only [hq, hn0, hn1, hL, hnm, als, List.map_cons] at hst hln hals hn ⊢
  obtain ⟨W1, hW1⟩ : ∃ W1, w.alloc (.cells #[.string nm, .slice a0 n0 c0, .slice a1 n1 c1, .slice al L cl] 26) = W1 := ⟨_, rfl⟩
  rw [hW1] at hst
  have HP : Hid (PB q w nm (.slice a0 n0 c0) (.slice a1 n1 c1) (.slice al L cl) W1) := hst
  have HLN : Hid (∀ Y, Below q w Y → ∀ j, j < L → _) := hln
  have HFS : Hid (∀ f ∈ fs, ∃ a c, f.2.1 = .slice a f.2.2.length c) := hfs
  have HL : Hid (fs.length = L ∧ L ≤ 2000) := ⟨hL, hn⟩
  have k1 := hst.c1
  have k2 := hst.c2
  clear hst hln hals hfs hn h
  go_enter Tryz.func21, Tryz.ntmps21
  go_upto_region 3 with (fail)
  have hb2 : Below W1.heap.size W1 (W1.alloc (.cells #[.slice a0 n0 c0, .slice a1 n1 c1] 22)) := (Below.refl _ _).alloc (Nat.le_refl _) _
  have hp2 := HP.out.below hb2
  have ho2 : (W1.alloc (.cells #[.slice a0 n0 c0, .slice a1 n1 c1] 22)).ownsRow q 22 1 (.slice (some ⟨W1.heap.size, 0, none⟩) 2 2) 2 [.slice a0 n0 c0, .slice a1 n1 c1] :=
    ⟨rfl, .inr ⟨W1.heap.size, 2, _, rfl, Nat.le_of_lt HP.out.lt, heap_alloc_new _ _, Nat.le_refl _, by unfold maxLen; omega, rfl, rfl⟩⟩
  obtain ⟨W2, hW2⟩ : ∃ W2, W1.alloc (.cells #[.slice a0 n0 c0, .slice a1 n1 c1] 22) = W2 := ⟨_, rfl⟩
  rw [hW2] at hp2 ho2
  simp only [hW2]
  have HP2 : Hid (PB q w nm (.slice a0 n0 c0) (.slice a1 n1 c1) (.slice al L cl) W2) := hp2
  have HO2 : Hid (W2.ownsRow q 22 1 (.slice (some ⟨W1.heap.size, 0, none⟩) (0 + 2) 2) (0 + 2) ([.slice a0 n0 c0, .slice a1 n1 c1] ++ (fs.take 0).map (·.2.1))) := by simp only [List.take_zero, List.map_nil, List.append_nil]; exact ho2
  clear hb2 hp2 ho2 k1 k2
  go_loopw [3, 4] (fun v3 v4 wr => ∃ (i : Nat) (av : Option Addr) (cv : Nat), i ≤ L ∧ v4 = .int .i64 i ∧ v3 = .slice av (i + 2) cv ∧ wr.ownsRow q 22 1 (.slice av (i + 2) cv) (i + 2) ([.slice a0 n0 c0, .slice a1 n1 c1] ++ (fs.take i).map (·.2.1)) ∧ PB q w nm (.slice a0 n0 c0) (.slice a1 n1 c1) (.slice al L cl) wr ∧ ∀ g, (Value.slice av (i + 2) cv).ownBlock = some g → q < g) (fun _ v _ => L - (intOf v).toNat)
  case atStart => exact ⟨0, _, _, Nat.zero_le _, rfl, rfl, HO2.out, HP2.out, fun g hg => by
    have e : some W1.heap.size = some g := hg
    injection e with e
    have := HP.out.lt
    omega⟩
  case round =>
    obtain ⟨i, av, cv, hi, rfl, rfl, ho, hp, hgq⟩ := hrel
    have HO : Hid (wr.ownsRow q 22 1 (.slice av (i + 2) cv) (i + 2) ([.slice a0 n0 c0, .slice a1 n1 c1] ++ (fs.take i).map (·.2.1))) := ho
    have HPi : Hid (PB q w nm (.slice a0 n0 c0) (.slice a1 n1 c1) (.slice al L cl) wr) := hp
    have HGQ : Hid (∀ g, (Value.slice av (i + 2) cv).ownBlock = some g → q < g) := hgq
    have c3 := hp.c3
    by_cases hlt : i < L
    · have b1 : (i : Int) < (L : Int) := by omega
      have bi : (0 : Int) ≤ (i : Int) := by omega
      obtain ⟨-, g, o, rfl, -, x1⟩ := HLN.out wr hp.old i hlt
      have hil : i < fs.length := by rw [HL.out.1]; exact hlt
      obtain ⟨au, cu, hu⟩ := HFS.out (fs.getD i (0, undef, [])) (by simp [List.getD, hil])
      rw [hu] at x1
      obtain ⟨m, hm⟩ : ∃ m, (fs.getD i (0, undef, [])).2.2.length = m := ⟨_, rfl⟩
      rw [hm] at x1 hu
      have HU : Hid ((fs.getD i (0, undef, [])).2.1 = .slice au m cu ∧ i < L ∧ i < fs.length) := ⟨hu, hlt, hil⟩
      have happ : ∀ ty, ∃ v' w', (Builtin.append_ #[36, 36] ty #[.slice av (i + 2) cv, .slice (some ⟨wr.heap.size, 0, none⟩) 1 1]).run Tryz.prog (wr.alloc (.cells #[.slice au m cu] 22)) = .ok v' w' ∧ (w'.ownsRow q 22 1 v' (i + 2 + 1) (([.slice a0 n0 c0, .slice a1 n1 c1] ++ (fs.take i).map (·.2.1)) ++ [.slice au m cu]) ∧ PB q w nm (.slice a0 n0 c0) (.slice a1 n1 c1) (.slice (some ⟨g, o, none⟩) L cl) w' ∧ ∀ g', v'.ownBlock = some g' → q < g') := fun ty => by
        have hb : Below wr.heap.size wr (wr.alloc (.cells #[.slice au m cu] 22)) := (Below.refl _ _).alloc (Nat.le_refl _) _
        have hp1 := HPi.out.below hb
        obtain ⟨i9, i1, hz'⟩ := Option.map_eq_some_iff.1 parts_sq
        simp only [Prod.mk.injEq] at hz'
        obtain ⟨i2, i3, i4⟩ := hz'
        obtain ⟨v', w', hr, h2, h3, _, h5⟩ := run_append_own_at (P := Tryz.prog) _ q 36 ty 22 i9 _ 1 24 Tryz.underlying36 i1 i2 i3 i4 rfl (by decide) _ (i + 2) _ (owns_below hb HO.out) ⟨wr.heap.size, 0, none⟩ 1 1 [.slice au m cu] rfl (fun j u hu => by
          rw [add_mid, Nat.zero_add, cell_of_row _ _ _ _ _ _ (heap_alloc_new wr _), ← hu]; simp) (fun u hu => by simp at hu; subst hu; rfl) (by unfold maxLen; have := HL.out; omega) (by have := HL.out; omega) (by have := hp1.lt; omega)
        refine ⟨v', w', hr, h2, ⟨hp1.old.grown h3 (Nat.le_of_lt hp1.lt) (fun k hk => by have := HGQ.out k hk; omega), Nat.lt_of_lt_of_le hp1.lt h3.size, (h3.block q hp1.lt (fun e => by have := HGQ.out q e.symm; omega)).trans hp1.row⟩, fun g' hg' => ?_⟩
        rcases h5 with h5 | h5
        · rw [h5] at hg'; exact HGQ.out g' hg'
        · rw [h5] at hg'
          injection hg' with hg'
          have := hp1.lt
          omega
      have HAPP : Hid _ := happ
      clear ho hp hgq hi hlt hu hm hil happ
      go_wp2_with (at_builtin; go_loud (refine wpList_app _ rfl _ _ 36 36 rfl _ _ rfl rfl HAPP.out ?_; rintro v7 w7 ⟨ho7, hp7, hg7⟩; (obtain ⟨a7, c7, rfl⟩ := own_slice' ho7); have H7 : Hid (w7.ownsRow q 22 1 (.slice a7 (i + 2 + 1) c7) (i + 2 + 1) (([.slice a0 n0 c0, .slice a1 n1 c1] ++ (fs.take i).map (·.2.1)) ++ [.slice au m cu]) ∧ PB q w nm (.slice a0 n0 c0) (.slice a1 n1 c1) (.slice (some ⟨g, o, none⟩) L cl) w7 ∧ ∀ g', (Value.slice a7 (i + 2 + 1) c7).ownBlock = some g' → q < g') := ⟨ho7, hp7, hg7⟩; clear ho7 hp7 hg7 c3 x1))
      have e1 : i + 1 + 2 = i + 2 + 1 := by omega
      refine ⟨⟨i + 1, a7, c7, HU.out.2.1, congrArg (Value.int .i64) (wrapS HU.out.2.1 (by have := HL.out; omega)), by rw [e1], ?_, H7.out.2.1, by rw [e1]; exact H7.out.2.2⟩, measS HU.out.2.1 (by have := HL.out; omega)⟩
      rw [e1, List.take_add_one, List.getElem?_eq_getElem HU.out.2.2, List.map_append]
      have hx := H7.out.1
      have hgd : fs[i]'HU.out.2.2 = fs.getD i (0, undef, []) := by simp [List.getD, HU.out.2.2]
      simp only [Option.toList_some, List.map_cons, List.map_nil, hgd, HU.out.1]
      rw [← List.append_assoc]
      exact hx
    · obtain rfl : i = L := by omega
      have b1 : ¬ (i : Int) < (i : Int) := by omega
      clear ho hp hgq hi
      go_wp2
      go_ret
      refine ⟨_, rfl, ?_, HPi.out.old⟩
      have hx := HO.out
      rw [List.take_of_length_le (by rw [HL.out.1]; exact Nat.le_refl _)] at hx
      exact hx
end Go.Proofs.YtpfidohkohldaaaGreatDoor
namespace Go.Proofs.YtpfidohkohldaaaGreatDoor
set_option linter.unusedSimpArgs false
set_option linter.unusedVariables false
set_option maxRecDepth 100000
open Go.ChangeShapes Go.WideShapes Go.ChangeAt Go.RowKit Go.Pin Go.Pat Go.Deep
theorem obs_put {A B : List Lv} {f : Int} {u : Value} {C D : List Int} : obs (A ++ (f, u, C) :: B) = obs (A ++ (f, u, D) :: B) := by
  rw [obs_app, obs_app]
  congr 1
/-- an element of a list is written -/
theorem OS.put {base : Nat} {pre : List Nat} {A B : List Lv} {f : Int} {C : List Int} {g cap : Nat} {w : World} (h : OS base pre (A ++ (f, .slice (some ⟨g, 0, none⟩) C.length cap, C) :: B) w) (k : Nat) (x : Int) :
    OS base pre (A ++ (f, .slice (some ⟨g, 0, none⟩) C.length cap, C.set k x) :: B) (w.setCell ⟨g, k, none⟩ (.int .i64 x)) := by
  have hmem : (f, Value.slice (some ⟨g, 0, none⟩) C.length cap, C) ∈ A ++ (f, .slice (some ⟨g, 0, none⟩) C.length cap, C) :: B := by simp
  have hnd := (List.nodup_append.1 h.nd).2.1
  rw [obs_app, obs_cons] at hnd
  have hg : (Value.slice (some ⟨g, 0, none⟩) C.length cap).ownBlock = some g := rfl
  have hA : ∀ e ∈ A, ∀ b, e.2.1.ownBlock = some b → b ≠ g := fun e he b hb eq => by
    have h1 := (List.nodup_append.1 hnd).2.2 b (obs_mem he hb) b (by rw [hg]; simp [eq])
    exact h1 rfl
  have hB : ∀ e ∈ B, ∀ b, e.2.1.ownBlock = some b → b ≠ g := fun e he b hb eq => by
    have h0 := (List.nodup_append.1 hnd).2.1
    have h1 := (List.nodup_append.1 h0).2.2 g (by rw [hg]; simp) b (obs_mem he hb)
    exact h1 eq.symm
  have oth : ∀ e : Lv, (∀ b, e.2.1.ownBlock = some b → b ≠ g) → w.ownsRow base 3 1 e.2.1 e.2.2.length (e.2.2.map (Value.int .i64)) → (w.setCell ⟨g, k, none⟩ (.int .i64 x)).ownsRow base 3 1 e.2.1 e.2.2.length (e.2.2.map (Value.int .i64)) := fun e hne ho =>
    own_keep ho (fun b hb => heap_setCell_other _ _ _ _ (hne b hb))
  refine ⟨fun e he => ?_, by rw [obs_put (D := C)]; exact h.nd⟩
  rcases List.mem_append.1 he with he | he
  · exact oth e (hA e he) (h.own e (List.mem_append_left _ he))
  · rcases List.mem_cons.1 he with rfl | he
    · have h1 := (h.own _ hmem).stored k (.int .i64 x)
      simp only [List.length_set, List.map_set] at h1 ⊢
      exact h1.1
    · exact oth e (hB e he) (h.own e (List.mem_append_right _ (List.mem_cons_of_mem _ he)))
end Go.Proofs.YtpfidohkohldaaaGreatDoor
namespace Go.Proofs.YtpfidohkohldaaaGreatDoor
set_option linter.unusedSimpArgs false
set_option linter.unusedVariables false
set_option maxRecDepth 100000
open Go.ChangeShapes Go.WideShapes Go.ChangeAt Go.RowKit Go.Pin Go.Pat Go.Deep
abbrev dLv : Lv := (0, undef, [])
/-- a list filled with its mark -/
def filL (mk : Int) (t : Nat) (f : Lv) : Lv := (f.1, f.2.1, List.replicate f.2.2.length (mk + (t : Int)))
def GF (mk : Int) (G : List Lv) (i : Nat) : List Lv := (List.range i).map fun t => filL mk t (G.getD t dLv)
theorem GF_succ (mk : Int) (G : List Lv) (i : Nat) : GF mk G (i + 1) = GF mk G i ++ [filL mk i (G.getD i dLv)] := by unfold GF; rw [List.range_succ, List.map_append]; rfl
theorem GF_len (mk : Int) (G : List Lv) (i : Nat) : (GF mk G i).length = i := by simp [GF]
theorem GF_sl (mk : Int) (G : List Lv) {i : Nat} (hi : i ≤ G.length) : (GF mk G i).map (·.2.1) = (G.take i).map (·.2.1) := by
  induction i with
  | zero => rfl
  | succ i ih =>
    rw [GF_succ, List.map_append, ih (by omega), List.take_add_one, List.getElem?_eq_getElem (by omega), List.map_append]
    simp [filL, List.getD, show i < G.length by omega]
theorem fil_set {C : List Int} {k : Nat} {x : Int} (h : k < C.length) : (List.replicate k x ++ C.drop k).set k x = List.replicate (k + 1) x ++ C.drop (k + 1) := by
  rw [List.set_append_right _ _ (by simp), List.length_replicate, Nat.sub_self, List.drop_eq_getElem_cons h, List.set_cons_zero, List.replicate_succ', List.append_assoc]
  rfl
/-- fill's state -/
structure FS (q base hi : Nat) (w0 : World) (nm : ByteArray) (v0 v1 vl u : Value) (lf : List Lv) (G : List Lv) (wr : World) : Prop where
  bx : wr.heap[q]? = some (.cells #[.string nm, v0, v1, vl] 26)
  bl : Below base w0 wr
  kp : ∀ k, hi ≤ k → k < q → wr.heap[k]? = w0.heap[k]?
  ro : wr.ownsRow q 22 1 u G.length (G.map (·.2.1))
  os : OS base vl.ownBlock.toList G wr
  ln : OA 43 2 vl lf.length (lvc lf) wr
  hh : ∀ k ∈ obs G, k < hi
  hl : ∀ g, vl.ownBlock = some g → base ≤ g ∧ g < hi
  hq : hi ≤ q ∧ base ≤ hi
section
variable {q base hi : Nat} {w0 wr : World} {nm : ByteArray} {v0 v1 vl u : Value} {lf G : List Lv}
theorem FS.put {A B : List Lv} {f : Int} {C : List Int} {g cap : Nat} (h : FS q base hi w0 nm v0 v1 vl u lf (A ++ (f, .slice (some ⟨g, 0, none⟩) C.length cap, C) :: B) wr) (k : Nat) (x : Int) :
    FS q base hi w0 nm v0 v1 vl u lf (A ++ (f, .slice (some ⟨g, 0, none⟩) C.length cap, C.set k x) :: B) (wr.setCell ⟨g, k, none⟩ (.int .i64 x)) := by
  have hmem : (f, Value.slice (some ⟨g, 0, none⟩) C.length cap, C) ∈ A ++ (f, .slice (some ⟨g, 0, none⟩) C.length cap, C) :: B := by simp
  have hg : g ∈ obs (A ++ (f, .slice (some ⟨g, 0, none⟩) C.length cap, C) :: B) := obs_mem hmem rfl
  have hlt := h.hh g hg
  have hge := (h.os.lt g hg).1
  have hq := h.hq
  have ho : ∀ b, b ≠ g → (wr.setCell ⟨g, k, none⟩ (.int .i64 x)).heap[b]? = wr.heap[b]? := fun b hne => heap_setCell_other _ _ _ _ hne
  have hvl : ∀ b, vl.ownBlock = some b → b ≠ g := fun b hb e => by
    have := (List.nodup_append.1 h.os.nd).2.2 b (by rw [hb]; simp) g hg
    exact this e
  refine ⟨(ho _ (by omega)).trans h.bx, h.bl.setCell (p := ⟨g, k, none⟩) hge _, fun b hb hbq => (ho b (by omega)).trans (h.kp b hb hbq), ?_, h.os.put k x, h.ln.keep (fun b hb => ho b (hvl b hb)), by rw [obs_put (D := C)]; exact h.hh, h.hl, h.hq⟩
  have hr := h.ro
  have e1 : (A ++ (f, Value.slice (some ⟨g, 0, none⟩) C.length cap, C.set k x) :: B).length = (A ++ (f, Value.slice (some ⟨g, 0, none⟩) C.length cap, C) :: B).length := by simp
  have e2 : (A ++ (f, Value.slice (some ⟨g, 0, none⟩) C.length cap, C.set k x) :: B).map (fun y => y.2.1) = (A ++ (f, Value.slice (some ⟨g, 0, none⟩) C.length cap, C) :: B).map (fun y => y.2.1) := by simp
  rw [e1, e2]
  exact own_keep hr (fun b hb => ho b (by have := (hr.lt b hb).1; omega))
theorem FS.below {w' : World} (h : FS q base hi w0 nm v0 v1 vl u lf G wr) (hb : Below wr.heap.size wr w') : FS q base hi w0 nm v0 v1 vl u lf G w' := by
  have hz : q < wr.heap.size := (Array.getElem?_eq_some_iff.1 h.bx).1
  have hq := h.hq
  exact ⟨(hb.block _ hz).trans h.bx, h.bl.trans (hb.mono (by omega)), fun k hk hkq => (hb.block k (by omega)).trans (h.kp k hk hkq), owns_below hb h.ro, h.os.below hb, h.ln.keep (fun g hg => hb.block g (h.ln.lt hg)), h.hh, h.hl, h.hq⟩
/-- the i-th list, as the row has it -/
theorem FS.at {a : Option Addr} {n c : Nat} (h : FS q base hi w0 nm v0 v1 vl (.slice a n c) lf G wr) {i : Nat} {f : Lv} (hf : G[i]? = some f) : n = G.length ∧ ∃ g, a = some ⟨g, 0, none⟩ ∧ wr.cell? ⟨g, i, none⟩ = some f.2.1 := by
  obtain ⟨e, hc⟩ := own_cell h.ro
  obtain ⟨g, ea, _, h1⟩ := hc i f.2.1 (by rw [List.getElem?_map, hf]; rfl)
  exact ⟨e, g, ea, h1⟩
end
end Go.Proofs.YtpfidohkohldaaaGreatDoor
