import Derived.Test.YtdakhiafagambaaDoorFrS
/- stage 20: the program's Reader: Next; what it is held to -/
namespace Go.Proofs.YtdakhiafagambaaDoor
set_option linter.unusedSimpArgs false
set_option linter.unusedVariables false
open Go.ChangeShapes Go.WideShapes Go.ChangeAt Go.RowKit Go.Pin
theorem nxt_some {H m r : List Int} (h : nxt H = some (m, r)) : m.length = hdn H ∧ 2 + m.length ≤ H.length ∧ r = H.drop (2 + m.length) := by
  unfold nxt at h
  split at h
  · cases h
  · rename_i hh
    injection h with h
    injection h with h1 h2
    have hl : m.length = hdn H := by rw [← h1]; simp; omega
    rw [hl]
    exact ⟨rfl, by omega, h2.symm⟩
/-- a message is copied into a list of just its length -/
theorem copy_new {w : World} {g n c : Nat} {a : Option Addr} {M : List Int} (hr : RdB w (.slice a n c) M) {Z : Array Value} (hg : w.heap[g]? = some (.cells Z 5)) (hz : Z.size = n) (ty : TypeId) :
    ∃ w', (Builtin.copy_ #[22, 22] ty #[.slice (some ⟨g, 0, none⟩) n n, .slice a n c]).run Tryd.prog w = .ok (.int .i64 (n : Int)) w' ∧ Below g w w' ∧ w'.heap[g]? = some (.cells (VI .u8 M) 5) ∧ w'.heap.size = w.heap.size := by
  obtain ⟨a', c', e, ⟨h1, h0⟩, h2, h3⟩ := hr
  injection e with e1 e2 e3
  subst e1 e3
  by_cases hn : n = 0
  · have hm : M = [] := List.length_eq_zero_iff.1 (by omega)
    subst hm
    have hz0 : Z = #[] := Array.size_eq_zero_iff.1 (by omega)
    refine ⟨w, ?_, Below.refl _ _, by rw [hg, hz0]; rfl, rfl⟩
    rw [run_copy_none (P := Tryd.prog) w 22 22 ty 5 (some ⟨g, 0, none⟩) a n n n c Tryd.underlying22 (by kernel_rfl) (by rw [hn]; rfl), hn]
    rfl
  · rcases h3 with h3 | ⟨b, o, e', h4⟩
    · subst h3; simp at e2; omega
    · subst e'
      have hl : (M.map (Value.int .u8)).length = n := by rw [List.length_map]; exact e2.symm
      have := run_copy_row (P := Tryd.prog) w 22 22 ty 5 g 0 n n ⟨b, o, none⟩ n c Z 5 (M.map (Value.int .u8)) Tryd.underlying22 (by kernel_rfl) hg (by rw [hl]; exact (Nat.min_self n).symm) (fun j v hv => by rw [add_mid]; exact h4 j v hv) (by omega) (ints_oneCell _ _)
      rw [hl] at this
      refine ⟨_, this, ⟨rfl, rfl, rfl, by simp [World.setRow], fun k hk => setRow_other w g k _ (by omega)⟩, ?_, by simp [World.setRow]⟩
      rw [setRow_heap w g _ _ _ _ hg]
      congr 2
      simp [VI, ← hz]
set_option maxRecDepth 100000 in
theorem next_nil (W : World) : Calls Tryd.prog 20 #[.pointer none] W fun e w' => e = .returned (.tuple #[.slice none 0 0, .bool false]) ∧ Below W.heap.size W w' := by
  have CK := kept_nil W
  have CF := find_any (W := W) (v := .slice none 0 0) (H := []) ⟨none, 0, rfl, ⟨Nat.le_refl _, fun _ => rfl⟩, by decide, .inl rfl⟩ (fun x hx => nomatch hx) (by decide)
  go_enter Tryd.func20, Tryd.ntmps20
  go_wp2_with (first
    | (go_at_call 25; refine CK.mono ?_; rintro e w' ⟨rfl, hw⟩; subst hw)
    | (go_at_call 24; go_loud (refine CF.mono ?_; rintro e w2 ⟨hb, he⟩; (have he : e = .returned (.tuple #[.slice none 0 0, .bool false]) := he); subst he; have HB : Hid (Below _ _ w2) := hb; clear hb)))
  go_ret2
  exact ⟨rfl, HB.out⟩
set_option maxRecDepth 100000 in
set_option maxHeartbeats 8000000 in
theorem next_any {g : Nat} {H : List Int} {F : List Nat} {W : World} (hr : rep g H F W) (hB : Byb H) (hH : H.length ≤ 1000000) :
    Calls Tryd.prog 20 #[.pointer (some ⟨g, 0, none⟩)] W fun e w' => ∃ v b, e = .returned (.tuple #[v, .bool b]) ∧ Chg F W w' ∧ ∃ F', (∀ k ∈ F', k ∈ F ∨ W.heap.size ≤ k) ∧ (nxt H = none → b = false ∧ v = .slice none 0 0 ∧ rep g H F' w') ∧ (∀ m r, nxt H = some (m, r) → b = true ∧ w'.ownsRow W.heap.size 5 1 v m.length (m.map (Value.int .u8)) ∧ rep g r F' w' ∧ ∀ k, v.ownBlock = some k → k ∉ F') := by
  obtain ⟨v, t, X, h1, h2, h3, h4, hF⟩ := id hr
  obtain ⟨a, cap, e, ⟨hc, hc0⟩, hc2, -⟩ := h1.rd (by omega)
  subst e
  obtain ⟨n, hn⟩ : ∃ n, X.length = n := ⟨_, rfl⟩
  rw [hn] at h1 h3 hc hF
  have CK := kept_any h1.c0 h1.c1 (by omega) hc
  have hrd : ∀ Y, Below W.heap.size W Y → RdB Y (.slice (adv a cap t) (n - t) (cap - t)) H := fun Y hY => by
    have h5 := (h1.below hY).rd (by omega)
    have h6 := h5.mid (i := t) (j := n) (by omega) (Nat.le_refl _)
    rw [h2, List.take_of_length_le (by omega)] at h6
    exact h6
  obtain ⟨q, hq⟩ : ∃ q, W.heap.size = q := ⟨_, rfl⟩
  rw [hq] at hrd
  generalize adv a cap t = a2 at CK hrd
  obtain ⟨L, hL⟩ : ∃ L, n - t = L := ⟨_, rfl⟩
  rw [hL] at CK hrd
  generalize cap - t = c2 at CK hrd
  have HRd : Hid (∀ Y, Below q W Y → RdB Y (.slice a2 L c2) H) := hrd
  have HX : Hid (X.length = n ∧ X.drop t = H ∧ t + H.length = n ∧ t ≤ H.length ∧ n ≤ cap ∧ H.length ≤ 1000000 ∧ W.heap.size = q ∧ n - t = L) := ⟨hn, h2, h3, h4, hc, hH, hq, hL⟩
  have HR : Hid (Rp g (.slice a n cap) t X W ∧ F = g :: (Value.slice a n cap).ownBlock.toList) := ⟨h1, hF⟩
  have HR0 : Hid (rep g H F W) := hr
  have HB : Hid (Byb H) := hB
  rw [hq]
  clear hr h1 h2 h3 h4 hF hc hc0 hc2 hn hrd hq hL hB hH
  cases hx : nxt H with
  | none =>
    have HN : Hid (nxt H = none) := hx
    clear hx
    go_enter Tryd.func20, Tryd.ntmps20
    go_wp2_with (first
      | (go_at_call 25; refine CK.mono ?_; rintro e w1 ⟨rfl, j, hj⟩; have H1 : Hid (Below q W w1) := (by rw [hj]; exact drewN_below (Below.refl _ _) _); have CF := find_any (HRd.out w1 H1.out) HB.out (by have := HX.out; omega); clear hj CK)
      | (go_at_call 24; refine CF.mono ?_; rintro e w2 ⟨hb, he⟩; (rw [HN.out] at he); (have he : e = .returned (.tuple #[.slice none 0 0, .bool false]) := he); subst he; have H2 : Hid (Below q W w2) := (H1.out.trans (hb.mono (by have := H1.out.size; have := HX.out; omega))); clear hb CF))
    go_ret2
    refine ⟨_, _, rfl, Chg.of_below (by rw [HX.out.2.2.2.2.2.2.1]; exact H2.out), F, fun k hk => .inl hk, fun _ => ⟨rfl, rfl, rep_keep HR0.out (fun k hk => H2.out.block k (by have := rep_lt HR0.out k hk; have := HX.out; omega))⟩, fun m r h => nomatch h⟩
  | some p =>
    obtain ⟨m, r⟩ := p
    obtain ⟨n1, n2, n3⟩ := nxt_some hx
    have HN : Hid (nxt H = some (m, r) ∧ m.length = hdn H ∧ 2 + m.length ≤ H.length ∧ r = H.drop (2 + m.length)) := ⟨hx, n1, n2, n3⟩
    clear hx n1 n2 n3
    go_enter Tryd.func20, Tryd.ntmps20
    go_upto_region 2 with (first
      | (go_at_call 25; refine CK.mono ?_; rintro e w1 ⟨rfl, j, hj⟩; have H1 : Hid (Below q W w1) := (by rw [hj]; exact drewN_below (Below.refl _ _) _); have CF := find_any (HRd.out w1 H1.out) HB.out (by have := HX.out; omega); clear hj CK)
      | (go_at_call 24; refine CF.mono ?_; rintro e w2 ⟨hb, he⟩; (rw [HN.out.1] at he); (obtain ⟨a3, n3, c3, rfl, hrd⟩ := he); have H2 : Hid (Below q W w2 ∧ RdB w2 (.slice a3 n3 c3) m) := ⟨H1.out.trans (hb.mono (by have := H1.out.size; have := HX.out; omega)), hrd⟩; clear hb hrd CF))
    have hml : m.length = n3 := by obtain ⟨_, _, e, _⟩ := H2.out.2; injection e with _ e _; exact e.symm
    have hq2 : q ≤ w2.heap.size := by have := H2.out.1.size; have := HX.out; omega
    have hmk := mk_b n3 (n3 : Int) rfl (by have := HX.out; have := HN.out; omega) w2
    obtain ⟨g3, hg3⟩ : ∃ g3, w2.heap.size = g3 := ⟨_, rfl⟩
    have hb3 : Below g3 w2 (w2.alloc (.cells (VI .u8 (List.replicate n3 0)) 5)) := by rw [← hg3]; exact (Below.refl _ _).alloc (Nat.le_refl _) _
    have hrow3 : (w2.alloc (.cells (VI .u8 (List.replicate n3 0)) 5)).heap[g3]? = some (.cells (VI .u8 (List.replicate n3 0)) 5) := by rw [← hg3]; exact heap_alloc_new _ _
    have hrd3 := H2.out.2.below (by rw [hg3]; exact hb3)
    rw [hg3] at hmk hq2
    have hsz3 : (w2.alloc (.cells (VI .u8 (List.replicate n3 0)) 5)).heap.size = g3 + 1 := by rw [← hg3]; exact size_alloc _ _
    obtain ⟨w3, hw3⟩ : ∃ w3, w2.alloc (.cells (VI .u8 (List.replicate n3 0)) 5) = w3 := ⟨_, rfl⟩
    rw [hw3] at hb3 hrow3 hrd3 hsz3 hmk
    obtain ⟨w4, hcp, hb4, hrow4, hsz4⟩ := copy_new hrd3 hrow3 (by simp [VI]) 3
    have hby : Below q W w4 := H2.out.1.trans ((hb3.trans hb4).mono hq2)
    have hrp : Rp g (.slice a n cap) t X w4 := HR.out.1.below (by rw [HX.out.2.2.2.2.2.2.1]; exact hby)
    have CC := cut_any (k := 2 + n3) hrp HX.out.1 (by have := HX.out; have := HN.out; omega) (by have := HX.out; omega) HX.out.2.2.2.2.1
    rw [show t + (2 + n3) = t + (2 + m.length) by rw [hml], ← List.drop_drop, HX.out.2.1, ← HN.out.2.2.2, ← HR.out.2] at CC
    have hki : (2 : Int) + (n3 : Int) = ((2 + n3 : Nat) : Int) := by omega
    rw [← hki] at CC
    have HH : Hid (m.length = n3 ∧ q ≤ g3 ∧ n3 ≤ 1000000 ∧ w4.heap[g3]? = some (.cells (VI .u8 m) 5) ∧ Below q W w4 ∧ w4.heap.size = g3 + 1) := ⟨hml, hq2, by have := HX.out; have := HN.out; omega, hrow4, hby, by omega⟩
    have hn3 : (n3 : Int) ≤ 1000000 := by have := HH.out; omega
    clear hw3 hki hrp hby hb4 hrow4 hsz4 hsz3 hrd3 hrow3 hb3 hq2 hml hg3
    go_wp2_with (first
      | (go_at_call 26; refine CC.mono ?_; rintro e w5 ⟨rfl, hch, F', hrep, hF'⟩; have H5 : Hid (Chg F w4 w5 ∧ rep g r F' w5 ∧ ∀ k ∈ F', k ∈ F) := ⟨hch, hrep, hF'⟩; clear hch hrep hF' CC)
      | (with_reducible refine at_list ?_; fail))
    go_ret2
    have hlt : ∀ k ∈ F, k < g3 := fun k hk => by have := rep_lt HR0.out k hk; have := HX.out; have := HH.out; omega
    have hq0 := HX.out.2.2.2.2.2.2.1
    refine ⟨_, _, rfl, (Chg.of_below (by rw [hq0]; exact HH.out.2.2.2.2.1)).tr H5.out.1, F', fun k hk => .inl (H5.out.2.2 k hk), (fun h => by cases h), ?_⟩
    intro m' r' h
    injection h with h
    injection h with e1 e2
    subst e1 e2
    refine ⟨rfl, ⟨by rw [List.length_map, Nat.mul_one], .inr ⟨g3, n3, VI .u8 m, ?_, HH.out.2.1, ?_, ?_, ?_, ?_, ?_⟩⟩, H5.out.2.1, fun k hk => ?_⟩
    · rw [HH.out.1]; rfl
    · exact (H5.out.1.blk g3 (by rw [HH.out.2.2.2.2.2]; omega) (fun hm => by have := hlt g3 hm; omega)).trans HH.out.2.2.2.1
    · rw [HH.out.1]; exact Nat.le_refl _
    · unfold maxLen; have := HH.out; omega
    · simp [VI, HH.out.1]
    · rw [Nat.mul_one]
      exact List.take_of_length_le (by simp [VI])
    · have e : some g3 = some k := hk
      injection e with e
      intro hm
      have := hlt k (H5.out.2.2 k hm)
      omega
theorem reader_any : RdrC rep where
  zero := rep_zero
  lt := rep_lt
  keep := fun h hk _ => rep_keep h hk
  feed := fun h hv _ hl => feed_any h hv hl
  next := fun h hB hl => next_any h hB hl
  held := fun h hl => held_any h hl
  feed0 := fun W v C _ => feed_nil W v
  next0 := next_nil
  held0 := held_nil
end Go.Proofs.YtdakhiafagambaaDoor
