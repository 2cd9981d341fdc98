import Derived.Test.YtdakhiafagambaaDoorFwE
/- stage 20: FrameOwn: longer lists -/
namespace Go.Proofs.YtdakhiafagambaaDoor
set_option linter.unusedSimpArgs false
set_option linter.unusedVariables false
set_option maxRecDepth 100000
open Go.ChangeShapes Go.WideShapes Go.ChangeAt Go.RowKit Go.Pin
/-- the lists, as MV wants them -/
def uls (B : List (Value × List Int)) : List (Value × Nat × List Value) := B.map fun a => (a.1, a.2.length, a.2.map (Value.int .u8))
def nw20 (t : Nat) : List Value := List.replicate 70 (.int .u8 ((128 + t : Nat) : Int))
theorem uls_at {B : List (Value × List Int)} {t : Nat} {u : Value × Nat × List Value} (h : (uls B)[t]? = some u) : ∃ b, B[t]? = some b ∧ u = (b.1, b.2.length, b.2.map (Value.int .u8)) := by
  unfold uls at h
  rw [List.getElem?_map] at h
  cases e : B[t]? with
  | none => rw [e] at h; cases h
  | some b => rw [e] at h; exact ⟨b, rfl, by simpa using h.symm⟩
theorem at_uls {B : List (Value × List Int)} {t : Nat} {b : Value × List Int} (h : B[t]? = some b) : (uls B)[t]? = some (b.1, b.2.length, b.2.map (Value.int .u8)) := by
  unfold uls
  rw [List.getElem?_map, h]
  rfl
abbrev MW (q q3 : Nat) (wD : World) (B : List (Value × List Int)) (v : Value) (Y : List Value) (w : World) : Prop := MV q 5 1 q3 wD (uls B) nw20 22 v Y w
section
variable {rep : Nat → List Int → List Nat → World → Prop} {q : Nat} {W0 : World} {g : Nat} {H : List Int} {F : List Nat} {a : Option Addr} {N c : Nat} {B : List (Value × List Int)} {wD w : World} {v : Value} {Y : List Value}
theorem mw_start (h : RO rep q W0 g H F (.slice a N c) (B.map (·.1)) B wD) : MW q wD.heap.size wD B (.slice none 0 0) [] wD := by
  refine MV.start h.qs (fun u hu => ?_) (fun s t u u' k hs ht hk hk' => ?_)
  · obtain ⟨t, ht, e⟩ := List.getElem_of_mem hu
    obtain ⟨b, hb, rfl⟩ := uls_at (t := t) (u := u) (by rw [List.getElem?_eq_getElem ht, e])
    exact ⟨own_oa (h.us t b hb), fun k hk => ((h.us t b hb).lt k hk).1⟩
  · obtain ⟨b, hb, rfl⟩ := uls_at hs
    obtain ⟨b', hb', rfl⟩ := uls_at ht
    exact h.ud s t b b' k hb hb' hk hk'
/-- the row of the lists is as it was -/
theorem mw_cell (h : RO rep q W0 g H F (.slice a N c) (B.map (·.1)) B wD) (hm : MW q wD.heap.size wD B v Y w) {t : Nat} {u : Value × List Int} (hu : B[t]? = some u) : ∃ b, a = some ⟨b, 0, none⟩ ∧ w.cell? ⟨b, t, none⟩ = some u.1 := by
  obtain ⟨b, e, hc⟩ := h.cell hu
  subst e
  refine ⟨b, rfl, ?_⟩
  rw [World.cell?_of_block (a := ⟨b, t, none⟩) (hm.st b (World.block_lt_of_cell? wD _ hc) (fun u' hu' e => ?_))]
  · exact hc
  · obtain ⟨s, hs, e'⟩ := List.getElem_of_mem hu'
    obtain ⟨b', hb', rfl⟩ := uls_at (t := s) (u := u') (by rw [List.getElem?_eq_getElem hs, e'])
    exact own_two (by decide) (h.us s b' hb') h.row e rfl
/-- the Reader is as it was -/
theorem mw_rep (hR : RdrC rep) (h : RO rep q W0 g H F (.slice a N c) (B.map (·.1)) B wD) (hm : MW q wD.heap.size wD B v Y w) : Below q W0 w ∧ q ≤ w.heap.size ∧ rep g H F w ∧ ∀ k ∈ F, q ≤ k := by
  refine ⟨h.lo.trans hm.bl, Nat.le_trans h.qs hm.bl.size, hR.keep h.rp (fun k hk => hm.st k (hR.lt h.rp k hk) (fun u hu e => ?_)) hm.bl.size, h.fq⟩
  obtain ⟨s, hs, e'⟩ := List.getElem_of_mem hu
  obtain ⟨b, hb, rfl⟩ := uls_at (t := s) (u := u) (by rw [List.getElem?_eq_getElem hs, e'])
  exact h.un s b hb k e hk
/-- a longer list is put into the row -/
theorem mw_push {q3 : Nat} (h : MW q q3 wD B v Y w) {i : Nat} {b : Value × List Int} (hb : B[i]? = some b) (hY : Y.length = i) (hi : i ≤ 1000) {l : Value} (ho : OA 5 1 l (b.2.length + 70) (b.2.map (Value.int .u8) ++ nw20 i) w) (hlb : ∀ k, l.ownBlock = some k → b.1.ownBlock = some k ∨ q3 ≤ k) (h1 : l.oneCell' = true) :
    ∀ ty, ∃ v' x, (Builtin.append_ #[53, 53] ty #[v, .slice (some ⟨w.heap.size, 0, none⟩) 1 1]).run Tryd.prog (w.alloc (.cells #[l] 22)) = .ok v' x ∧ (MW q q3 wD B v' (Y ++ [l]) x ∧ ∃ a c, v' = .slice a (i + 1) c) := fun ty => by
  have hal : Below w.heap.size w (w.alloc (.cells #[l] 22)) := (Below.refl _ _).alloc (Nat.le_refl _) _
  have h2 := h.below hal
  have ho2 := ho.keep (w' := w.alloc (.cells #[l] 22)) (fun k hk => hal.block k (ho.lt hk))
  obtain ⟨v', x, hr, g2, g3, g4⟩ := own_app Tryd.underlying53 parts_sl rfl (by decide) h2.l16 (news := [l]) (heap_alloc_new w _) rfl (fun u hu => by rw [List.mem_singleton.1 hu]; exact h1) (by omega) (by omega) h2.sz ty
  refine ⟨v', x, hr, h2.put (by decide) (at_uls hb) hY ho2 hlb g2 g3, ?_⟩
  rw [hY] at g2
  exact own_slice' g2
end
/-- a mark is appended to a list -/
theorem lr_app {q : Nat} {wi : World} {u : Value} {m : Nat} {cs : List Value} {l : Value} {j X : Nat} {nw : List Value} {y : World} (h : LR q 5 1 X wi u m cs l j nw y) (x : Int) (hn : m + j ≤ 1000000) :
    ∀ ty, ∃ l' y', (Builtin.append_ #[22, 22] ty #[l, .slice (some ⟨y.heap.size, 0, none⟩) 1 1]).run Tryd.prog (y.alloc (.cells #[.int .u8 x] 5)) = .ok l' y' ∧ (LR q 5 1 X wi u m cs l' (j + 1) (nw ++ [.int .u8 x]) y' ∧ ∃ a c, l' = .slice a (m + (j + 1)) c) := fun ty => by
  have hal : Below y.heap.size y (y.alloc (.cells #[.int .u8 x] 5)) := (Below.refl _ _).alloc (Nat.le_refl _) _
  have h2 := h.below hal
  obtain ⟨l', y', hr, g2, g3⟩ := oa_app Tryd.underlying22 parts_u8 rfl (by decide) h2.hl (news := [.int .u8 x]) (heap_alloc_new y _) rfl (fun u hu => by rw [List.mem_singleton.1 hu]; rfl) (by omega) (by omega) ty
  have h3 := h2.app g2 g3
  exact ⟨l', y', hr, h3, h3.hl.sl⟩
theorem fil_len2 {Ms : List (List Int)} (hl : ∀ M ∈ Ms, M.length ≤ 65535) {A B : List (Value × List Int)} (hA : A.map (·.2) = dbl Ms ++ Ms) {i k : Nat} (hf : FilP A B i k) {t : Nat} {v : Value} {C : List Int} (h : B[t]? = some (v, C)) : C.length ≤ 65537 := by
  have h1 := congrArg (fun l => l[t]?) hf.1
  simp only [List.getElem?_map, h, Option.map_some] at h1
  cases e : A[t]? with
  | none => rw [e] at h1; cases h1
  | some u =>
    have h2 := (hf.2 t u _ e h).1
    simp only at h2
    rw [h2]
    exact fil_len hl hA (v := u.1) (C := u.2) e
theorem frm_byb {M : List Int} (h1 : M.length ≤ 65535) (h3 : Byb M) : Byb (frm M) := fun x hx => by
  simp only [frm, List.cons_append, List.nil_append, List.mem_cons] at hx
  rcases hx with rfl | rfl | hx
  · omega
  · omega
  · exact h3 x hx
theorem adv_own2 {a : Option Addr} {cap i n c m d k : Nat} (h : (Value.slice (adv a cap i) n c).ownBlock = some k) : (Value.slice a m d).ownBlock = some k := by
  unfold adv at h
  split at h
  · rw [own_len a m d n c]; exact h
  · cases a with
    | none => cases h
    | some x =>
      obtain ⟨b, o, s⟩ := x
      cases s with
      | none => rw [Option.map_some, add_mid] at h; exact h
      | some s =>
        rw [Option.map_some] at h
        simp only [Addr.add, Value.ownBlock] at h ⊢
        first | exact h | (split at h <;> simp_all)
theorem arg_lt {w : World} {a : Option Addr} {n c : Nat} {C : List Int} (h : RdB w (.slice a n c) C) (h0 : 0 < n) {q : Nat} (hq : w.heap.size = q) {k : Nat} (hk : (Value.slice a n c).ownBlock = some k) : k < q := by
  obtain ⟨_, _, hat⟩ := h.at
  obtain ⟨b, o, rfl, hc⟩ := hat 0 h0
  cases hk
  rw [← hq]
  exact World.block_lt_of_cell? w _ (hc w (Below.refl _ _))
/-- what loop 8 looks at -/
theorem look8 {rep : Nat → List Int → List Nat → World → Prop} {q : Nat} {W0 : World} {g : Nat} {H : List Int} {F : List Nat} {a a21 : Option Addr} {N c c21 : Nat} {A B : List (Value × List Int)} {W7 W8 : World} {Y : List Value} {Ms : List (List Int)} (hl : ∀ M ∈ Ms, M.length ≤ 65535) (hA : A.map (·.2) = dbl Ms ++ Ms) (hAN : A.length = N) (h7 : RO rep q W0 g H F (.slice a N c) (B.map (·.1)) B W7) (hf : FilP A B N 0) (h9 : MW q W7.heap.size W7 B (.slice a21 N c21) Y W8) (hY : Y.length = N) {i : Nat} (hi : i < N) :
    ∃ g7 a0 k0 g21 ay cy m, a = some ⟨g7, 0, none⟩ ∧ a21 = some ⟨g21, 0, none⟩ ∧ W8.cell? ⟨g7, i, none⟩ = some (.slice a0 m k0) ∧ W8.cell? ⟨g21, i, none⟩ = some (.slice ay (m + 70) cy) ∧ m ≤ 65537 ∧ ∀ k, k < m + 70 → ∃ b o, ay = some ⟨b, o, none⟩ ∧ W8.cell? ⟨b, o + k, none⟩ = some (.int .u8 (if k < m then (i : Int) else ((128 + i : Nat) : Int))) ∧ (k < m → ∃ b' o', a0 = some ⟨b', o', none⟩ ∧ W8.cell? ⟨b', o' + k, none⟩ = some (.int .u8 (i : Int))) := by
  have hBN : B.length = N := by
    have := congrArg List.length hf.1
    simp only [List.length_map] at this
    omega
  obtain ⟨⟨v0, C⟩, hBi⟩ : ∃ u, B[i]? = some u := ⟨_, List.getElem?_eq_getElem (by omega)⟩
  obtain ⟨u, hAi⟩ : ∃ u, A[i]? = some u := ⟨_, List.getElem?_eq_getElem (by omega)⟩
  obtain ⟨y, hYi⟩ : ∃ y, Y[i]? = some y := ⟨_, List.getElem?_eq_getElem (by omega)⟩
  have hC : C = List.replicate u.2.length (i : Int) := (hf.2 i u _ hAi hBi).2.1 hi
  have hCl : C.length ≤ 65537 := fil_len2 hl hA hf hBi
  obtain ⟨m, hm⟩ : ∃ m, u.2.length = m := ⟨_, rfl⟩
  rw [hm] at hC
  have hCm : C.length = m := by rw [hC]; simp
  obtain ⟨a0, k0, e⟩ := own_slice' (h7.us _ _ hBi)
  have e : v0 = .slice a0 C.length k0 := e
  subst e
  rw [hCm] at hBi hCl
  obtain ⟨g7, ea, x1⟩ := mw_cell h7 h9 hBi
  obtain ⟨hyo, _⟩ := h9.ys i _ y (at_uls hBi) hYi
  have huo := h9.us i _ (at_uls hBi)
  simp only [hCm] at hyo huo
  obtain ⟨ay, cy, rfl⟩ := hyo.sl
  obtain ⟨g21, eb, _, x2⟩ := (own_cell h9.l16).2 i _ hYi
  refine ⟨g7, a0, k0, g21, ay, cy, m, ea, eb, x1, x2, hCl, fun k hk => ?_⟩
  have hval : (C.map (Value.int .u8) ++ nw20 i)[k]? = some (.int .u8 (if k < m then (i : Int) else ((128 + i : Nat) : Int))) := by
    by_cases h : k < m
    · rw [if_pos h, List.getElem?_append_left (by rw [List.length_map]; omega), hC]
      simp [h]
    · rw [if_neg h, List.getElem?_append_right (by rw [List.length_map]; omega), List.length_map, hCm]
      unfold nw20
      rw [List.getElem?_replicate, if_pos (by omega)]
  obtain ⟨_, b, o, e1, hc1, _⟩ := hyo.cell hval
  refine ⟨b, o, e1, hc1, fun h => ?_⟩
  obtain ⟨_, b', o', e2, hc2, _⟩ := huo.cell (j := k) (u := .int .u8 (i : Int)) (by rw [hC]; simp [h])
  exact ⟨b', o', e2, hc2⟩
theorem rep_snoc (j : Nat) (x : Value) : List.replicate j x ++ [x] = List.replicate (j + 1) x := by rw [List.replicate_succ']
end Go.Proofs.YtdakhiafagambaaDoor
