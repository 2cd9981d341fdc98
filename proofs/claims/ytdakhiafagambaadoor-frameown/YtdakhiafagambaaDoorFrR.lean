import Derived.Test.YtdakhiafagambaaDoorFrQ
/- stage 20: the program's Reader: what it keeps; kept, find, Held, Feed -/
namespace Go.Proofs.YtdakhiafagambaaDoor
set_option linter.unusedSimpArgs false
set_option linter.unusedVariables false
open Go.ChangeShapes Go.WideShapes Go.ChangeAt Go.RowKit Go.Pin
/-- an append with more room -/
theorem own_appZ {w : World} {b : Nat} {v : Value} {n : Nat} {xs : List Value} (hown : w.ownsRow b 5 1 v n xs) {u : Value} {C : List Int} (hu : RdB w u C) (hn : n + C.length ≤ 4000000) (hb : b ≤ w.heap.size) :
    ∀ ty, ∃ v' w', (Builtin.append_ #[22, 22] ty #[v, u]).run Tryd.prog w = .ok v' w' ∧ (w'.ownsRow b 5 1 v' (n + C.length) (xs ++ C.map (Value.int .u8)) ∧ w.grownBy w' v.ownBlock ∧ (v'.ownBlock = v.ownBlock ∨ v'.ownBlock = some w.heap.size)) := fun ty => by
  obtain ⟨i, i1, hz'⟩ := Option.map_eq_some_iff.1 parts_u8
  simp only [Prod.mk.injEq] at hz'
  obtain ⟨i2, i3, i4⟩ := hz'
  obtain ⟨a, cap, rfl, ⟨hc1, hc0⟩, _, h3⟩ := hu
  cases a with
  | none =>
    have hcap := hc0 rfl
    obtain rfl : C = [] := List.length_eq_zero_iff.1 (by omega)
    subst hcap
    exact ⟨v, w, run_append_owned_none (P := Tryd.prog) w b 22 ty 5 i 1 Tryd.underlying22 i1 _ n xs hown, by simpa using hown, World.grownBy.refl _ _, .inl rfl⟩
  | some ad =>
    obtain ⟨v', w', hr, h2, h4, _, h5⟩ := run_append_own_at (P := Tryd.prog) w b 22 ty 5 i (.int .u8 0) 1 1 Tryd.underlying22 i1 i2 i3 i4 rfl (by decide) v n xs hown ad C.length cap (C.map (Value.int .u8)) (by rw [List.length_map, Nat.mul_one]) (fun j x hx => by
      rcases h3 with h3 | ⟨bb, o, e, hr⟩
      · subst h3; simp at hx
      · injection e with e
        subst e
        rw [Addr.add_lit]
        exact hr j x hx) (ints_oneCell _ _) (by unfold maxLen; omega) (by omega) hb
    exact ⟨v', w', hr, h2, h4, h5⟩
/-- the Reader in block g: its list X in the slice v, t bytes of it told -/
structure Rp (g : Nat) (v : Value) (t : Nat) (X : List Int) (w : World) : Prop where
  row : w.heap[g]? = some (.cells #[v, .int .i64 (t : Int)] 39)
  own : w.ownsRow 0 5 1 v X.length (X.map (Value.int .u8))
def rep (g : Nat) (H : List Int) (F : List Nat) (w : World) : Prop :=
  ∃ v t X, Rp g v t X w ∧ X.drop t = H ∧ t + H.length = X.length ∧ t ≤ H.length ∧ F = g :: v.ownBlock.toList
theorem own_blk {w : World} {b : Nat} {v : Value} {n : Nat} {xs : List Value} (h : w.ownsRow b 5 1 v n xs) {k : Nat} (hk : v.ownBlock = some k) : ∃ cur, w.heap[k]? = some (.cells cur 5 (0, 0)) := by
  rcases h.2 with ⟨rfl, _⟩ | ⟨g, cap, cur, rfl, _, hg, _⟩
  · cases hk
  · cases hk; exact ⟨_, hg⟩
theorem Rp.ne {g : Nat} {v : Value} {t : Nat} {X : List Int} {w : World} (h : Rp g v t X w) {k : Nat} (hk : v.ownBlock = some k) : k ≠ g := fun e => by
  obtain ⟨cur, h1⟩ := own_blk h.own hk
  rw [e, h.row] at h1
  injection h1 with h1
  injection h1 with _ h2 _
  exact absurd h2 (by decide)
theorem Rp.lt {g : Nat} {v : Value} {t : Nat} {X : List Int} {w : World} (h : Rp g v t X w) : g < w.heap.size := (Array.getElem?_eq_some_iff.1 h.row).1
theorem Rp.keep {g : Nat} {v : Value} {t : Nat} {X : List Int} {w w' : World} (h : Rp g v t X w) (hk : ∀ k ∈ g :: v.ownBlock.toList, w'.heap[k]? = w.heap[k]?) : Rp g v t X w' :=
  ⟨(hk g (by simp)).trans h.row, own_keep h.own (fun k e => hk k (by simp [e]))⟩
theorem Rp.below {g : Nat} {v : Value} {t : Nat} {X : List Int} {w w' : World} (h : Rp g v t X w) (hb : Below w.heap.size w w') : Rp g v t X w' :=
  ⟨(hb.block g h.lt).trans h.row, owns_below hb h.own⟩
theorem Rp.c0 {g : Nat} {v : Value} {t : Nat} {X : List Int} {w : World} (h : Rp g v t X w) : w.cell? ⟨g, 0, none⟩ = some v := by rw [cell_of_row _ _ _ _ _ _ h.row]; rfl
theorem Rp.c1 {g : Nat} {v : Value} {t : Nat} {X : List Int} {w : World} (h : Rp g v t X w) : w.cell? ⟨g, 1, none⟩ = some (.int .i64 (t : Int)) := by rw [cell_of_row _ _ _ _ _ _ h.row]; rfl
theorem Rp.fz {g : Nat} {v : Value} {t : Nat} {X : List Int} {w : World} (h : Rp g v t X w) (i : Nat) : w.frozen? ⟨g, i, none⟩ = false := frozen_of_row _ _ _ _ _ h.row
theorem Rp.rd {g : Nat} {v : Value} {t : Nat} {X : List Int} {w : World} (h : Rp g v t X w) (hX : X.length ≤ 4000000) : RdB w v X := own_byt h.own (by omega)
theorem rep_zero (w : World) : rep w.heap.size [] [w.heap.size] (w.alloc (.cells zRd 39)) :=
  ⟨.slice none 0 0, 0, [], ⟨heap_alloc_new _ _, own_nil0 _ _ _ _⟩, rfl, rfl, Nat.le_refl _, rfl⟩
theorem rep_lt {g : Nat} {H : List Int} {F : List Nat} {w : World} (h : rep g H F w) : ∀ k ∈ F, k < w.heap.size := by
  obtain ⟨v, t, X, h1, -, -, -, rfl⟩ := h
  intro k hk
  rcases List.mem_cons.1 hk with rfl | hk
  · exact h1.lt
  · exact (h1.own.lt k (by simpa using hk)).2
theorem rep_keep {g : Nat} {H : List Int} {F : List Nat} {w w' : World} (h : rep g H F w) (hk : ∀ k ∈ F, w'.heap[k]? = w.heap[k]?) : rep g H F w' := by
  obtain ⟨v, t, X, h1, h2, h3, h4, rfl⟩ := h
  exact ⟨v, t, X, h1.keep hk, h2, h3, h4, rfl⟩
theorem Chg.drew {F : List Nat} {w w' : World} (h : Chg F w w') : Chg F w w'.drew := ⟨h.os, h.tape, h.output, h.size, h.blk⟩
set_option maxRecDepth 100000 in
set_option maxHeartbeats 4000000 in
theorem kept_any {W : World} {g t n cap : Nat} {a : Option Addr} (c0 : W.cell? ⟨g, 0, none⟩ = some (.slice a n cap)) (c1 : W.cell? ⟨g, 1, none⟩ = some (.int .i64 (t : Int))) (ht : t ≤ n) (hn : n ≤ cap) :
    Calls Tryd.prog 25 #[.pointer (some ⟨g, 0, none⟩)] W fun e w' => e = .returned (.slice (adv a cap t) (n - t) (cap - t)) ∧ ∃ k, w' = W.drewN k := by
  have hr := fun w => run_from w a n cap t (t : Int) rfl ht hn
  generalize adv a cap t = a2 at hr ⊢
  generalize n - t = n2 at hr ⊢
  generalize cap - t = c2 at hr ⊢
  clear ht hn
  go_enter Tryd.func25, Tryd.ntmps25
  go_wp2
  go_quiet (fail)
  go_wp2
  go_ret
  exact ⟨rfl, _, rfl⟩
set_option maxRecDepth 100000 in
theorem kept_nil (W : World) : Calls Tryd.prog 25 #[.pointer none] W fun e w' => e = .returned (.slice none 0 0) ∧ w' = W := by
  go_enter Tryd.func25, Tryd.ntmps25
  go_wp2
  go_ret
  exact ⟨rfl, rfl⟩
set_option maxRecDepth 100000 in
theorem held_nil (W : World) : Calls Tryd.prog 21 #[.pointer none] W fun e w' => e = .returned (.int .i64 0) ∧ Below W.heap.size W w' := by
  have CK := kept_nil W
  go_enter Tryd.func21, Tryd.ntmps21
  go_wp2_with (go_at_call 25; refine CK.mono ?_; rintro e w' ⟨rfl, rfl⟩)
  go_ret
  exact ⟨rfl, Below.refl _ _⟩
set_option maxRecDepth 100000 in
theorem feed_nil (W : World) (v : Value) : Calls Tryd.prog 19 #[.pointer none, v] W fun e w' => e = .returned (.tuple #[]) ∧ Below W.heap.size W w' := by
  go_enter Tryd.func19, Tryd.ntmps19
  go_wp2
  first | go_end0 | refine bodyPost_ret (results_none rfl _ _ _) rfl ?_
  exact ⟨rfl, Below.refl _ _⟩
set_option maxRecDepth 100000 in
set_option maxHeartbeats 4000000 in
theorem held_any {g : Nat} {H : List Int} {F : List Nat} {W : World} (hr : rep g H F W) (hH : H.length ≤ 1000000) :
    Calls Tryd.prog 21 #[.pointer (some ⟨g, 0, none⟩)] W fun e w' => e = .returned (.int .i64 (H.length : Int)) ∧ Below W.heap.size W w' := by
  obtain ⟨v, t, X, h1, h2, h3, h4, rfl⟩ := hr
  obtain ⟨a, cap, e, ⟨hc, -⟩, -⟩ := h1.rd (by omega)
  subst e
  have CK := kept_any h1.c0 h1.c1 (by omega) hc
  rw [show X.length - t = H.length by omega] at CK
  generalize H.length = nH at CK ⊢
  clear h2 h3 h4 hH hc h1
  generalize adv a cap t = a2 at CK
  generalize cap - t = c2 at CK
  go_enter Tryd.func21, Tryd.ntmps21
  go_wp2_with (go_at_call 25; refine CK.mono ?_; rintro e w' ⟨rfl, k, rfl⟩)
  go_ret
  exact ⟨rfl, drewN_below (Below.refl _ _) _⟩
/-- a list that is grown, the Reader's other cell stands -/
theorem Rp.grown {g : Nat} {v v' : Value} {t : Nat} {X X' : List Int} {w w' : World} (h : Rp g v t X w) (ho : w'.ownsRow 0 5 1 v' X'.length (X'.map (Value.int .u8))) (hg : w.grownBy w' v.ownBlock) (hv : v'.ownBlock = v.ownBlock ∨ v'.ownBlock = some w.heap.size) :
    w'.heap[g]? = some (.cells #[v, .int .i64 (t : Int)] 39) ∧ Rp g v' t X' (w'.setCell ⟨g, 0, none⟩ v') ∧ Chg (g :: v.ownBlock.toList) w (w'.setCell ⟨g, 0, none⟩ v') := by
  have hrow : w'.heap[g]? = some (.cells #[v, .int .i64 (t : Int)] 39) := (hg.block g h.lt (fun e => h.ne e.symm rfl)).trans h.row
  have hne : ∀ k, v'.ownBlock = some k → k ≠ g := fun k hk => by
    rcases hv with e | e
    · exact h.ne (e.symm.trans hk)
    · have := e.symm.trans hk
      injection this with this
      have := h.lt
      omega
  refine ⟨hrow, ⟨?_, own_keep ho (fun k hk => heap_setCell_other _ _ _ _ (hne k hk))⟩, ⟨hg.os, hg.tape, hg.output, Nat.le_trans hg.size ((Below.refl 0 w').setCell (p := ⟨g, 0, none⟩) (Nat.zero_le _) v').size, fun k hk hn => ?_⟩⟩
  · rw [heap_setCell_same w' _ _ _ _ _ hrow]; rfl
  · rw [heap_setCell_other _ _ _ _ (fun e => hn (by simp [e]))]
    exact hg.block k hk (fun e => hn (by simp [← e]))
set_option maxRecDepth 100000 in
set_option maxHeartbeats 4000000 in
theorem feed_any {g : Nat} {H C : List Int} {F : List Nat} {W : World} {v : Value} (hr : rep g H F W) (hv : RdB W v C) (hl : H.length + C.length ≤ 1000000) :
    Calls Tryd.prog 19 #[.pointer (some ⟨g, 0, none⟩), v] W fun e w' => e = .returned (.tuple #[]) ∧ Chg F W w' ∧ ∃ F', rep g (H ++ C) F' w' ∧ ∀ k ∈ F', k ∈ F ∨ W.heap.size ≤ k := by
  obtain ⟨u, t, X, h1, h2, h3, h4, rfl⟩ := hr
  have happ := own_appZ h1.own hv (by omega) (Nat.zero_le _)
  have c0 := h1.c0
  have f0 := h1.fz 0
  have HA : Hid _ := happ
  have H1 : Hid (Rp g u t X W) := h1
  have H2 : Hid (X.drop t = H ∧ t + H.length = X.length ∧ t ≤ H.length ∧ H.length + C.length ≤ 1000000) := ⟨h2, h3, h4, hl⟩
  clear h1 h2 h3 h4 hl happ
  go_enter Tryd.func19, Tryd.ntmps19
  go_wp2_with (at_builtin; go_loud (refine wpList_app _ rfl _ _ 22 22 rfl _ _ rfl rfl HA.out ?_; rintro v1 w1 ⟨ho1, hg1, hv1⟩; (rw [← List.map_append, ← List.length_append] at ho1); have h5 := H1.out.grown ho1 hg1 hv1; have c0 : w1.cell? ⟨g, 0, none⟩ = some u := (by rw [cell_of_row _ _ _ _ _ _ h5.1]; rfl); have f0 : w1.frozen? ⟨g, 0, none⟩ = false := frozen_of_row _ _ _ _ _ h5.1; have H5 : Hid (Rp g v1 t (X ++ C) (w1.setCell ⟨g, 0, none⟩ v1) ∧ Chg (g :: u.ownBlock.toList) W (w1.setCell ⟨g, 0, none⟩ v1) ∧ (v1.ownBlock = u.ownBlock ∨ v1.ownBlock = some W.heap.size)) := ⟨h5.2.1, h5.2.2, hv1⟩; (obtain ⟨a1, k1, rfl⟩ := own_slice' ho1); clear ho1 hg1 hv1 h5 HA))
  first | go_end0 | refine bodyPost_ret (results_none rfl _ _ _) rfl ?_
  obtain ⟨h5, h6, h7⟩ := H5.out
  simp only [List.length_append] at h5 h6 h7
  obtain ⟨e1, e2, e3, e4⟩ := H2.out
  refine ⟨rfl, h6, _, ⟨_, t, X ++ C, h5, ?_, by simp only [List.length_append]; omega, by simp only [List.length_append]; omega, rfl⟩, fun k hk => ?_⟩
  · rw [List.drop_append_of_le_length (by omega), e1]
  · rcases List.mem_cons.1 hk with rfl | hk
    · exact .inl (by simp)
    · rcases h7 with e | e
      · rw [e] at hk; exact .inl (List.mem_cons_of_mem _ hk)
      · rw [e] at hk
        simp at hk
        exact .inr (by omega)
/-- what find answers -/
def FnP (H : List Int) (q : Nat) (W : World) (e : Ending) (w' : World) : Prop :=
  Below q W w' ∧ match nxt H with | none => e = .returned (.tuple #[.slice none 0 0, .bool false]) | some (m, _) => ∃ a n cap, e = .returned (.tuple #[.slice a n cap, .bool true]) ∧ RdB w' (.slice a n cap) m
theorem RdB.cut3 {w : World} {a : Option Addr} {n cap : Nat} {H : List Int} (h : RdB w (.slice a n cap) H) {i j : Nat} (hi : i ≤ j) (hj : j ≤ n) : RdB w (.slice (if j = i then a else a.map (·.add i)) (j - i) (j - i)) ((H.drop i).take (j - i)) := by
  obtain ⟨a', cap', e, ⟨h1, h0⟩, h2, h3⟩ := h
  injection e with e1 e2 e3
  subst e1 e3
  have hl : ((H.drop i).take (j - i)).length = j - i := by simp; omega
  refine ⟨_, j - i, by rw [hl], ⟨by rw [hl]; omega, fun e => ?_⟩, by rw [hl]; omega, ?_⟩
  · split at e
    · omega
    · cases a with
      | none => have := h0 rfl; omega
      | some _ => simp at e
  · by_cases hz : j - i = 0
    · exact .inl (by rw [hz]; simp)
    rcases h3 with h3 | ⟨b', o', e', h4⟩
    · subst h3
      exact .inl (by simp)
    · subst e'
      refine .inr ⟨b', o' + i, by rw [if_neg (by omega)]; simp [add_mid], fun t u hu => ?_⟩
      have ht : t < j - i := by have := (List.getElem?_eq_some_iff.1 hu).1; simp at this; omega
      rw [List.getElem?_map, List.getElem?_take_of_lt ht, List.getElem?_drop] at hu
      have := h4 (i + t) u (by rw [List.getElem?_map]; exact hu)
      rw [Nat.add_assoc]
      exact this
theorem i64_or_nat (a b : Nat) (ha : a < 9223372036854775808) (hb : b < 9223372036854775808) : bits .or .i64 (a : Int) (b : Int) = ((a ||| b : Nat) : Int) := by
  have hx : a ||| b < 2 ^ 63 := Nat.or_lt_two_pow (by omega) (by omega)
  show IntKind.i64.wrap ((BitVec.ofInt 64 (a : Int) ||| BitVec.ofInt 64 (b : Int)).toNat : Int) = _
  rw [BitVec.toNat_or, ofInt_u64 a (by omega), ofInt_u64 b (by omega), IntWalk.i64_in _ ⟨by omega, by omega⟩]
theorem or_two {h0 h1 : Int} (a0 : 0 ≤ h0) (b0 : h0 < 256) (a1 : 0 ≤ h1) (b1 : h1 < 256) : bits .or .i64 (h0 * 256) h1 = 256 * h0 + h1 := by
  obtain ⟨x, rfl⟩ := Int.eq_ofNat_of_zero_le a0
  obtain ⟨y, rfl⟩ := Int.eq_ofNat_of_zero_le a1
  have h : y < 2 ^ 8 := by omega
  have := Nat.two_pow_add_eq_or_of_lt h x
  rw [show (((x : Nat) : Int) * 256) = ((2 ^ 8 * x : Nat) : Int) by omega, i64_or_nat _ _ (by omega) (by omega), ← this]
  omega
set_option maxRecDepth 100000 in
set_option maxHeartbeats 8000000 in
theorem find_any {W : World} {v : Value} {H : List Int} (hh : RdB W v H) (hB : Byb H) (hH : H.length ≤ 1000000) :
    Calls Tryd.prog 24 #[v] W (FnP H W.heap.size W) := by
  have hhB := fun Y (hY : Below W.heap.size W Y) => hh.below hY
  obtain ⟨ah, ch, rfl, ⟨hcap, -⟩, -⟩ := id hh
  obtain ⟨q, hq⟩ : ∃ q, W.heap.size = q := ⟨_, rfl⟩
  obtain ⟨-, -, hat⟩ := rdb_at hq hh
  obtain ⟨nH, hnH⟩ : ∃ n, H.length = n := ⟨_, rfl⟩
  have hN : nxt H = if nH < 2 ∨ nH < 2 + hdn H then none else some ((H.drop 2).take (hdn H), H.drop (2 + hdn H)) := by rw [← hnH]; rfl
  simp only [hq, hnH] at hhB hH hat hcap ⊢
  have HH : Hid (∀ Y, Below q W Y → RdB Y (.slice ah nH ch) H) := hhB
  have HL : Hid (H.length = nH ∧ nH ≤ 1000000 ∧ W.heap.size = q ∧ nH ≤ ch) := ⟨hnH, hH, hq, hcap⟩
  have HN : Hid _ := hN
  clear hhB hh hH hN hcap
  by_cases hs : nH < 2
  · have b1 : (nH : Int) < 2 := by omega
    have HN2 : Hid (nxt H = none) := by show nxt H = none; rw [HN.out, if_pos (.inl hs)]
    clear hs hat hnH HN hq
    go_enter Tryd.func24, Tryd.ntmps24
    go_wp2
    go_ret2
    exact ⟨Below.refl _ _, by rw [HN2.out]; rfl⟩
  · have b1 : ¬ (nH : Int) < 2 := by omega
    obtain ⟨b, o, rfl, x0⟩ := hat 0 (by omega)
    obtain ⟨b', o', e, x1⟩ := hat 1 (by omega)
    injection e with e
    injection e with e1 e2
    subst e1 e2
    have x0 := x0 W (Below.refl _ _)
    have x1 := x1 W (Below.refl _ _)
    have hb0 := hB (H.getD 0 0) (by rw [List.getD_eq_getElem?_getD, List.getElem?_eq_getElem (by omega)]; exact List.getElem_mem _)
    have hb1 := hB (H.getD 1 0) (by rw [List.getD_eq_getElem?_getD, List.getElem?_eq_getElem (by omega)]; exact List.getElem_mem _)
    have hd : hdn H = (256 * H.getD 0 0 + H.getD 1 0).toNat := rfl
    generalize H.getD 0 0 = h0 at x0 hb0 hd
    generalize H.getD 1 0 = h1 at x1 hb1 hd
    rw [Nat.add_zero] at x0
    have e1 : IntKind.i64.wrap h0 = h0 := IntWalk.i64_in _ ⟨by omega, by omega⟩
    have e2 : IntKind.i64.wrap h1 = h1 := IntWalk.i64_in _ ⟨by omega, by omega⟩
    have e3 := or_two hb0.1 hb0.2 hb1.1 hb1.2
    obtain ⟨n, hn⟩ : ∃ n, hdn H = n := ⟨_, rfl⟩
    have hsum : 256 * h0 + h1 = (n : Int) := by rw [← hn, hd]; omega
    have hn5 : n ≤ 65535 := by rw [← hn, hd]; omega
    rw [hsum] at e3
    have HN3 : Hid (nxt H = if nH < 2 + n then none else some ((H.drop 2).take n, H.drop (2 + n))) := by
      show nxt H = _
      rw [HN.out, hn]
      by_cases h : nH < 2 + n
      · rw [if_pos (.inr h), if_pos h]
      · rw [if_neg (by omega), if_neg h]
    have HLT : Hid (2 ≤ nH ∧ n ≤ 65535) := ⟨by omega, hn5⟩
    clear hs hat hnH HN hd hn hq hsum
    go_enter Tryd.func24, Tryd.ntmps24
    go_upto_region 3 with (fail)
    go_quiet (fail)
    have HB1 : Hid (Below q W (W.drewN nq)) := drewN_below (Below.refl _ _) _
    obtain ⟨W1, hW1⟩ : ∃ W1, W.drewN nq = W1 := ⟨_, rfl⟩
    rw [hW1] at HB1 ⊢
    clear hW1 x0 x1 e1 e2 e3 hb0 hb1 hB hn5
    by_cases hs : nH < 2 + n
    · have b2 : (nH : Int) < 2 + (n : Int) := by omega
      have HN2 : Hid (nxt H = none) := by show nxt H = none; rw [HN3.out, if_pos hs]
      have hw : IntKind.i64.wrap (2 + (n : Int)) = 2 + (n : Int) ∧ wrap64 (2 + (n : Int)) = 2 + (n : Int) := by have := HLT.out; rw [IntWalk.i64_in _ ⟨by omega, by omega⟩, IntWalk.wrap64_in _ ⟨by omega, by omega⟩]; exact ⟨rfl, rfl⟩
      obtain ⟨w1, w2⟩ := hw
      clear hs HN3
      go_wp2
      go_ret2
      exact ⟨HB1.out, by rw [HN2.out]; rfl⟩
    · have b2 : ¬ (nH : Int) < 2 + (n : Int) := by omega
      have HN2 : Hid (nxt H = some ((H.drop 2).take n, H.drop (2 + n))) := by show nxt H = _; rw [HN3.out, if_neg hs]
      have hw : IntKind.i64.wrap (2 + (n : Int)) = 2 + (n : Int) ∧ wrap64 (2 + (n : Int)) = 2 + (n : Int) := by have := HLT.out; rw [IntWalk.i64_in _ ⟨by omega, by omega⟩, IntWalk.wrap64_in _ ⟨by omega, by omega⟩]; exact ⟨rfl, rfl⟩
      obtain ⟨w1, w2⟩ := hw
      have rm := fun w => run_cut3 w (some ⟨b, o, none⟩) nH ch 2 (2 + n) 2 (2 + (n : Int)) rfl (by omega) (by omega) (by have := HL.out; omega)
      have hrd := (HH.out W1 HB1.out).cut3 (i := 2) (j := 2 + n) (by omega) (by omega)
      simp only [Nat.add_sub_cancel_left] at rm hrd
      obtain ⟨a3, ha3⟩ : ∃ a3, (if 2 + n = 2 then some (⟨b, o, none⟩ : Addr) else (some (⟨b, o, none⟩ : Addr)).map (·.add 2)) = a3 := ⟨_, rfl⟩
      rw [ha3] at hrd
      simp only [ha3] at rm
      have HR : Hid (RdB W1 (.slice a3 n n) ((H.drop 2).take n)) := hrd
      clear hrd ha3 hs HN3
      go_wp2
      go_ret2
      exact ⟨HB1.out, by rw [HN2.out]; exact ⟨a3, n, n, rfl, HR.out⟩⟩
end Go.Proofs.YtdakhiafagambaaDoor
