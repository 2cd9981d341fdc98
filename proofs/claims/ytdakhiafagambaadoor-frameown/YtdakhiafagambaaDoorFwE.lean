import Derived.Test.YtdakhiafagambaaDoorFwC
/- stage 20: FrameOwn: states of its loops -/
namespace Go.Proofs.YtdakhiafagambaaDoor
set_option linter.unusedSimpArgs false
set_option linter.unusedVariables false
set_option maxRecDepth 100000
open Go.ChangeShapes Go.WideShapes Go.ChangeAt Go.RowKit Go.Pin
theorem take_snoc {Ms : List (List Int)} {i : Nat} (h : ∀ M ∈ Ms.take i, M.length ≤ 65535) (h2 : (Ms.getD i []).length ≤ 65535) : ∀ M ∈ Ms.take (i + 1), M.length ≤ 65535 := fun M hM => by
  rw [List.take_add_one] at hM
  rcases List.mem_append.1 hM with h3 | h3
  · exact h M h3
  · cases e : Ms[i]? with
    | none => rw [e] at h3; cases h3
    | some x =>
      rw [e] at h3
      have : M = x := by simpa using h3
      rw [List.getD_eq_getElem?_getD, e] at h2
      rw [this]
      exact h2
theorem U_len {Ms : List (List Int)} {i : Nat} {U : List (Value × List Int)} (hU : U.map (·.2) = dbl (Ms.take i)) (hi : i ≤ Ms.length) : U.length = 2 * i := by
  have := congrArg List.length hU
  rw [List.length_map, dbl_len, List.length_take] at this
  omega
theorem meas1 {i n : Nat} (h : i < n) : n - (intOf (Value.int .i64 ((i : Int) + 1))).toNat < n - (intOf (Value.int .i64 (i : Int))).toNat := by
  show n - ((i : Int) + 1).toNat < n - ((i : Int)).toNat
  omega
/-- loop 1: i messages are put, twice each, and stand on the line -/
def S1 (rep : Nat → List Int → List Nat → World → Prop) (q : Nat) (W : World) (Ms : List (List Int)) (i : Nat) (v6 v7 : Value) (w : World) : Prop :=
  ∃ U : List (Value × List Int), RO rep q W q [] [q] v7 (U.map (·.1)) ((v6, lin (Ms.take i)) :: U) w ∧ U.map (·.2) = dbl (Ms.take i) ∧ ∀ M ∈ Ms.take i, M.length ≤ 65535
theorem own_row8 {w : World} {b : Nat} {a : Option Addr} {m cap n : Nat} {xs : List Value} (h : w.ownsRow b 5 1 (.slice a m cap) n xs) (hn : 0 < n) : ∃ B cur, a = some ⟨B, 0, none⟩ ∧ w.heap[B]? = some (.cells cur 5 (0, 0)) ∧ (cap ≤ maxLen ∧ cur.size = cap) ∧ cur.toList.take n = xs := by
  rcases h.2 with ⟨e, e2⟩ | ⟨g, cap', cur, e, hb, hg, h1, h2, h3, h4⟩
  · omega
  · injection e with e1 e2 e3
    subst e1 e3
    exact ⟨g, cur, rfl, hg, ⟨h2, by rw [h3, Nat.mul_one]⟩, by rw [Nat.mul_one] at h4; exact h4⟩
theorem own_cap8 {w : World} {b : Nat} {e : TypeId} {a : Option Addr} {m cap n : Nat} {xs : List Value} (h : w.ownsRow b e 1 (.slice a m cap) n xs) : m ≤ cap := by
  rcases h.2 with ⟨e, e2⟩ | ⟨g, cap', cur, e, hb, hg, h1, h2, h3, h4⟩
  · injection e with e1 e2 e3; omega
  · injection e with e1 e2 e3; omega
theorem RdB.pre {w : World} {b n cap : Nat} {C : List Int} (h : RdB w (.slice (some ⟨b, 0, none⟩) n cap) C) {k : Nat} (hk : k ≤ n) : RdB w (.slice (some ⟨b, 0, none⟩) k cap) (C.take k) := by
  have := h.mid (i := 0) (j := k) (Nat.zero_le _) hk
  have e : adv (some ⟨b, 0, none⟩) cap 0 = some ⟨b, 0, none⟩ := by unfold adv; split; rfl; simp [add_mid]
  rw [e] at this
  simpa using this
theorem RO.init {rep : Nat → List Int → List Nat → World → Prop} {q : Nat} {W0 : World} {g : Nat} {H : List Int} {F : List Nat} {vr : Value} {R : List Value} {A : List (Value × List Int)} {w : World} {a : Value × List Int} (h : RO rep q W0 g H F vr R (A ++ [a]) w) : RO rep q W0 g H F vr R A w := by
  have hx : ∀ (t : Nat) u, A[t]? = some u → (A ++ [a])[t]? = some u := fun t u hu => by rw [List.getElem?_append_left (List.getElem?_eq_some_iff.1 hu).1]; exact hu
  exact ⟨h.lo, h.qs, h.rp, h.fq, h.row, h.rn, fun t u hu => h.us t u (hx t u hu), fun t u hu => h.un t u (hx t u hu), fun s t u u' k hs ht => h.ud s t u u' k (hx s u hs) (hx t u' ht)⟩
theorem snd_at {A : List (Value × List Int)} {L : List (List Int)} (h : A.map (·.2) = L) {t : Nat} {C : List Int} (hC : L[t]? = some C) : ∃ v, A[t]? = some (v, C) := by
  rw [← h, List.getElem?_map] at hC
  cases e : A[t]? with
  | none => rw [e] at hC; cases hC
  | some u =>
    rw [e] at hC
    have : u.2 = C := by simpa using hC
    exact ⟨u.1, by rw [← this]⟩
theorem RO.cell {rep : Nat → List Int → List Nat → World → Prop} {q : Nat} {W0 : World} {g : Nat} {H : List Int} {F : List Nat} {a : Option Addr} {n c : Nat} {A : List (Value × List Int)} {w : World} (h : RO rep q W0 g H F (.slice a n c) (A.map (·.1)) A w) {t : Nat} {u : Value × List Int} (hu : A[t]? = some u) : ∃ b, a = some ⟨b, 0, none⟩ ∧ w.cell? ⟨b, t, none⟩ = some u.1 := by
  obtain ⟨b, e, _, hc⟩ := (own_cell h.row).2 t u.1 (by rw [List.getElem?_map, hu]; rfl)
  exact ⟨b, e, hc⟩
/-- loop 2: i messages are told -/
def S2 (rep : Nat → List Int → List Nat → World → Prop) (q : Nat) (W : World) (Ms : List (List Int)) (La : List Int) (i : Nat) (v7 : Value) (w : World) : Prop :=
  ∃ (F : List Nat) (A : List (Value × List Int)), RO rep q W q (kpt Ms La i) F v7 (A.map (·.1)) A w ∧ A.map (·.2) = dbl Ms ++ Ms.take i
/-- what loop 3 looks at -/
theorem look3 {rep : Nat → List Int → List Nat → World → Prop} (hR : RdrC rep) {q : Nat} {W0 : World} {g : Nat} {H : List Int} {F : List Nat} {a : Option Addr} {N c : Nat} {A : List (Value × List Int)} {W5 : World} (h5 : RO rep q W0 g H F (.slice a N c) (A.map (·.1)) A W5) {Ms : List (List Int)} (hA : A.map (·.2) = dbl Ms ++ Ms) {i n : Nat} (hn : Ms.length = n) (hi : i < n) (hml : (Ms.getD i []).length ≤ 65535) :
    ∃ g7 ax cx ay cy az cz, a = some ⟨g7, 0, none⟩ ∧ (Ms.getD i []).length + 2 ≤ cy ∧ ∀ Y, Below W5.heap.size W5 Y → (Y.cell? ⟨g7, 2 * n + i, none⟩ = some (.slice ax (Ms.getD i []).length cx) ∧ Y.cell? ⟨g7, 2 * i, none⟩ = some (.slice ay ((Ms.getD i []).length + 2) cy) ∧ Y.cell? ⟨g7, 2 * i + 1, none⟩ = some (.slice az ((Ms.getD i []).length + 2) cz)) ∧ RdB Y (.slice ax (Ms.getD i []).length cx) (Ms.getD i []) ∧ RdB Y (.slice ay ((Ms.getD i []).length + 2) cy) (frm (Ms.getD i [])) ∧ RdB Y (.slice az ((Ms.getD i []).length + 2) cz) (frm (Ms.getD i [])) ∧ RdB Y (.slice (adv ay cy 2) (Ms.getD i []).length (cy - 2)) (Ms.getD i []) := by
  subst hn
  have hdl := dbl_len Ms
  have hda := dbl_at Ms (i := i) hi
  obtain ⟨ux, hux⟩ := snd_at hA (t := 2 * Ms.length + i) (C := Ms.getD i []) (by rw [List.getElem?_append_right (by omega), hdl, Nat.add_sub_cancel_left, List.getElem?_eq_getElem hi]; simp [List.getD, hi])
  obtain ⟨uy, huy⟩ := snd_at hA (t := 2 * i) (C := frm (Ms.getD i [])) (by rw [List.getElem?_append_left (by omega)]; exact hda.1)
  obtain ⟨uz, huz⟩ := snd_at hA (t := 2 * i + 1) (C := frm (Ms.getD i [])) (by rw [List.getElem?_append_left (by omega)]; exact hda.2)
  obtain ⟨g7, rfl, -⟩ := h5.cell hux
  obtain ⟨ax, cx, e⟩ := own_slice' (h5.us _ _ hux)
  have e : ux = .slice ax (Ms.getD i []).length cx := e
  subst e
  obtain ⟨ay, cy, e⟩ := own_slice' (h5.us _ _ huy)
  have e : uy = .slice ay (frm (Ms.getD i [])).length cy := e
  subst e
  obtain ⟨az, cz, e⟩ := own_slice' (h5.us _ _ huz)
  have e : uz = .slice az (frm (Ms.getD i [])).length cz := e
  subst e
  have hcy : (frm (Ms.getD i [])).length ≤ cy := own_cap8 (h5.us _ _ huy)
  have hfl := frm_len (Ms.getD i [])
  obtain ⟨M, hM⟩ : ∃ M, Ms.getD i [] = M := ⟨_, rfl⟩
  rw [hM] at hux huy huz hml hcy hfl ⊢
  refine ⟨g7, ax, cx, ay, cy, az, cz, rfl, by omega, fun Y hY => ?_⟩
  have h6 := h5.below hR hY
  obtain ⟨_, e, x1⟩ := h6.cell hux
  cases e
  obtain ⟨_, e, x2⟩ := h6.cell huy
  cases e
  obtain ⟨_, e, x3⟩ := h6.cell huz
  cases e
  have r1 := own_byt (h6.us _ _ hux) (by simp only; omega)
  have r2 := own_byt (h6.us _ _ huy) (by simp only; omega)
  have r3 := own_byt (h6.us _ _ huz) (by simp only; omega)
  simp only at r1 r2 r3 x1 x2 x3
  rw [hfl] at r2 r3 x2 x3
  have r5 := r2.mid (i := 2) (j := M.length + 2) (by omega) (Nat.le_refl _)
  rw [Nat.add_sub_cancel, show (frm M).drop 2 = M from rfl, List.take_of_length_le (Nat.le_refl _)] at r5
  exact ⟨⟨x1, x2, x3⟩, r1, r2, r3, r5⟩
/-- the lists ahead of the i-th are full of their marks, and k bytes of the i-th -/
def FilP (A B : List (Value × List Int)) (i k : Nat) : Prop :=
  B.map (·.1) = A.map (·.1) ∧ ∀ (t : Nat) u u', A[t]? = some u → B[t]? = some u' → u'.2.length = u.2.length ∧ (t < i → u'.2 = List.replicate u.2.length (t : Int)) ∧ (t = i → ∀ j, j < k → u'.2.getD j 0 = (i : Int))
theorem FilP.start (A : List (Value × List Int)) : FilP A A 0 0 :=
  ⟨rfl, fun t u u' h h' => by rw [h] at h'; injection h' with h'; subst h'; exact ⟨rfl, (fun h => by omega), (fun _ j hj => by omega)⟩⟩
theorem FilP.at {A B : List (Value × List Int)} {i k : Nat} (h : FilP A B i k) {t : Nat} {v : Value} {C : List Int} (ht : A[t]? = some (v, C)) : ∃ C', B[t]? = some (v, C') ∧ C'.length = C.length := by
  have h1 := congrArg (fun l => l[t]?) h.1
  simp only [List.getElem?_map, ht, Option.map_some] at h1
  cases e : B[t]? with
  | none => rw [e] at h1; cases h1
  | some u =>
    rw [e] at h1
    have h2 : u.1 = v := by simpa using h1
    refine ⟨u.2, by rw [← h2], (h.2 t _ u ht e).1⟩
theorem fst_set {B : List (Value × List Int)} {i : Nat} {v : Value} {C C' : List Int} (h : B[i]? = some (v, C)) : (B.set i (v, C')).map (·.1) = B.map (·.1) := by
  rw [List.map_set]
  refine List.ext_getElem? fun t => ?_
  rw [List.getElem?_set]
  split
  · rename_i e
    subst e
    split
    · rw [List.getElem?_map, h]; rfl
    · rename_i hh
      have := (List.getElem?_eq_some_iff.1 h).1
      rw [List.length_map] at hh
      omega
  · rfl
theorem FilP.set {A B : List (Value × List Int)} {i k : Nat} (h : FilP A B i k) {v : Value} {C : List Int} (hB : B[i]? = some (v, C)) (hk : k < C.length) : FilP A (B.set i (v, C.set k (i : Int))) i (k + 1) := by
  refine ⟨(fst_set hB).trans h.1, fun t u u' hu hu' => ?_⟩
  rw [List.getElem?_set] at hu'
  split at hu'
  · rename_i e
    subst e
    split at hu'
    · injection hu' with hu'
      subst hu'
      obtain ⟨h1, h2, h3⟩ := h.2 i u _ hu hB
      refine ⟨by simpa using h1, fun h => by omega, fun _ j hj => ?_⟩
      simp only [List.getD_eq_getElem?_getD, List.getElem?_set]
      by_cases e : k = j
      · subst e; simp [hk]
      · rw [if_neg e, ← List.getD_eq_getElem?_getD]
        exact h3 rfl j (by omega)
    · cases hu'
  · rename_i e
    obtain ⟨h1, h2, h3⟩ := h.2 t u u' hu hu'
    exact ⟨h1, h2, fun e' => absurd e'.symm e⟩
theorem FilP.done {A B : List (Value × List Int)} {i k : Nat} (h : FilP A B i k) {v : Value} {C : List Int} (hA : A[i]? = some (v, C)) (hk : C.length = k) : FilP A B (i + 1) 0 := by
  refine ⟨h.1, fun t u u' hu hu' => ?_⟩
  obtain ⟨h1, h2, h3⟩ := h.2 t u u' hu hu'
  refine ⟨h1, fun ht => ?_, fun _ j hj => by omega⟩
  by_cases e : t = i
  · subst e
    rw [hA] at hu
    injection hu with hu
    subst hu
    simp only at h1 ⊢
    refine List.ext_getElem (by simpa using h1) fun j hj hj' => ?_
    have h4 := h3 rfl j (by omega)
    rw [List.getD_eq_getElem?_getD, List.getElem?_eq_getElem hj] at h4
    simpa using h4
  · exact h2 (by omega)
theorem fil_len {Ms : List (List Int)} (hl : ∀ M ∈ Ms, M.length ≤ 65535) {A : List (Value × List Int)} (hA : A.map (·.2) = dbl Ms ++ Ms) {i : Nat} {v : Value} {C : List Int} (h : A[i]? = some (v, C)) : C.length ≤ 65537 := by
  have : C ∈ dbl Ms ++ Ms := by
    rw [← hA]
    exact List.mem_map.2 ⟨_, List.mem_of_getElem? h, rfl⟩
  rcases List.mem_append.1 this with h1 | h1
  · obtain ⟨M, hM, h2⟩ := List.mem_flatMap.1 h1
    have := hl M hM
    have h3 : C = frm M := by simpa using h2
    rw [h3, frm_len]
    omega
  · have := hl C h1
    omega
end Go.Proofs.YtdakhiafagambaaDoor
