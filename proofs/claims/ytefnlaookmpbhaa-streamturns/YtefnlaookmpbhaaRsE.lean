import Derived.Test.YtefnlaookmpbhaaRsX
import Derived.Test.YtefnlaookmpbhaaTrB
namespace Go.Proofs.Ytefnlaookmpbhaa
set_option linter.unusedSimpArgs false
set_option linter.unusedVariables false
open Go.ChangeShapes Go.WideShapes Go.ChangeAt Go.RowKit Go.Pin Go.Str
/-- the first i bytes turned -/
def xl (D : List Nat) (f : Nat → Nat) (i : Nat) : List Nat := (List.range i).map fun j => D.getD j 0 ^^^ f j
theorem xl_len (D : List Nat) (f : Nat → Nat) (i : Nat) : (xl D f i).length = i := by simp [xl]
theorem xl_succ (D : List Nat) (f : Nat → Nat) (i : Nat) : xl D f (i + 1) = xl D f i ++ [D.getD i 0 ^^^ f i] := by simp [xl, List.range_succ]
theorem xl_at (D : List Nat) (f : Nat → Nat) (i j : Nat) (hj : j < i) : (xl D f i).getD j 0 = D.getD j 0 ^^^ f j := by simp [xl, List.getD, hj]
theorem kb_ks (key : List Nat) (c : Nat) (nonce : List Nat) (i : Nat) : (kb key ((c + i / 64) % 4294967296) nonce).getD (i % 64) 0 = ks key c nonce i := by
  rw [kb_at _ _ _ _ (Nat.mod_lt _ (by decide))]
  unfold ks
  rw [show i % 64 / 64 = 0 by omega, show i % 64 % 64 = i % 64 by omega, show ((c + i / 64) % 4294967296 + 0) % 4294967296 = (c + i / 64) % 4294967296 by omega]
structure XW (q : Nat) (w : World) (key nonce D : List Nat) (f : Nat → Nat) (KB : List Nat) (i : Nat) (v : Value) (wr : World) : Prop where
  old : Below q w wr
  sz : q + 3 ≤ wr.heap.size
  hk : RK wr q key 23
  hn : RK wr (q + 1) nonce 26
  hb : RK wr (q + 2) KB 29
  own : wr.ownsRow (q + 3) 5 1 v i (cellsB (xl D f i))
section
variable {q : Nat} {w : World} {key nonce D : List Nat} {f : Nat → Nat} {KB KB' : List Nat} {i : Nat} {v : Value} {wr w' : World}
theorem XW.below (h : XW q w key nonce D f KB i v wr) (hb : Below wr.heap.size wr w') : XW q w key nonce D f KB i v w' := by
  have sz := h.sz
  exact ⟨h.old.trans (hb.mono (by omega)), Nat.le_trans sz hb.size, (hb.block _ (by omega)).trans h.hk, (hb.block _ (by omega)).trans h.hn, (hb.block _ (by omega)).trans h.hb, owns_below h.own hb⟩
theorem XW.row (h : XW q w key nonce D f KB i v wr) : XW q w key nonce D f KB' i v (wr.setRow (q + 2) (VN .u8 KB')) := by
  have b := but_setRow wr (q + 2) (VN .u8 KB')
  refine ⟨h.old.trans (b.below (fun k hk => by omega)), by rw [b.size]; exact h.sz, (b.block _ (by omega)).trans h.hk, (b.block _ (by omega)).trans h.hn, setRow_heap _ _ _ _ _ _ h.hb, (Grow.of_but b).owns h.own (fun k hk hn => ?_)⟩
  have := (h.own.lt k hk).1
  omega
/-- one byte more -/
theorem XW.app (h : XW q w key nonce D f KB i v wr) (z : Nat) (hz : z = D.getD i 0 ^^^ f i) (hi : i ≤ 1000000) (ty : TypeId) :
    ∃ v' w', (Builtin.append_ #[40, 40] ty #[v, .slice (some ⟨wr.heap.size, 0, none⟩) 1 1]).run Try.prog (wr.drew.alloc (.cells #[.int .u8 ((z : Nat) : Int)] 5)) = .ok v' w' ∧ XW q w key nonce D f KB (i + 1) v' w' := by
  have h1 := h.below (w' := wr.drew.alloc (.cells #[.int .u8 ((z : Nat) : Int)] 5)) ⟨rfl, rfl, rfl, by simp, fun k hk => by rw [heap_alloc_any, if_neg (by show ¬ k = wr.heap.size; omega)]; rfl⟩
  obtain ⟨i0, hi0, hz0⟩ := Option.map_eq_some_iff.1 infoBt
  simp only [Prod.mk.injEq] at hz0
  obtain ⟨hz1, hz2, hz3⟩ := hz0
  obtain ⟨v', w', hr, h2, h3, _, h5⟩ := run_append_own_at (P := Try.prog) (wr.drew.alloc (.cells #[.int .u8 ((z : Nat) : Int)] 5)) (q + 3) 40 ty 5 i0 (.int .u8 0) 1 1 Try.underlying40 hi0 hz1 hz2 hz3 rfl (by decide) v i (cellsB (xl D f i)) h1.own ⟨wr.heap.size, 0, none⟩ 1 1 [.int .u8 ((z : Nat) : Int)] rfl (fun j u hj => by
      have hj0 : j = 0 := by have := (List.getElem?_eq_some_iff.1 hj).1; simp at this; exact this
      subst hj0
      rw [add_mid, cell_of_row (wr.drew.alloc (.cells #[.int .u8 ((z : Nat) : Int)] 5)) wr.heap.size 0 #[.int .u8 ((z : Nat) : Int)] 5 (0, 0) (by rw [heap_alloc_any, if_pos (show wr.heap.size = wr.drew.heap.size from rfl)])]
      simpa using hj) (by simp [Value.oneCell']) (by unfold maxLen; omega) (by omega) (by have := h.sz; simp [size_alloc]; omega)
  refine ⟨v', w', hr, ?_⟩
  have hlt : ∀ k, k < q + 3 → w'.heap[k]? = (wr.drew.alloc (.cells #[.int .u8 ((z : Nat) : Int)] 5)).heap[k]? := fun k hk => h3.block k (by have := h1.sz; omega) (fun e => by have := (h1.own.lt k e.symm).1; omega)
  refine ⟨h1.old.trans ⟨h3.os, h3.tape, h3.output, h3.size, fun k hk => hlt k (by omega)⟩, Nat.le_trans h1.sz h3.size, (hlt _ (by omega)).trans h1.hk, (hlt _ (by omega)).trans h1.hn, (hlt _ (by omega)).trans h1.hb, ?_⟩
  rw [xl_succ, ← hz]
  have e : cellsB (xl D f i ++ [z]) = cellsB (xl D f i) ++ [.int .u8 ((z : Nat) : Int)] := by simp [cellsB]
  rw [e]
  exact h2
end
theorem rd_of_owns {w' : World} {u : Value} {n B : Nat} {l : List Nat} (hl : l.length = n) (h : w'.ownsRow B 5 1 u n (cellsB l)) : Rd w' u l := by
  subst hl
  rcases h.2 with ⟨rfl, h0⟩ | ⟨g, cp, cur, rfl, hb, hg, hnc, hcm, hcs, ht⟩
  · exact ⟨none, 0, by rw [h0], by rw [h0]; exact Nat.le_refl _, .inl (List.eq_nil_of_length_eq_zero h0)⟩
  · refine ⟨some ⟨g, 0, none⟩, cp, rfl, hnc, .inr ⟨g, 0, rfl, fun j hj => ?_⟩⟩
    have := h.cells (g := g) rfl j (.int .u8 ((l.getD j 0 : Nat) : Int)) (by
      simp only [cellsB, List.getElem?_map, List.getElem?_eq_getElem hj, Option.map_some, Option.some.injEq]
      simp [List.getD, List.getElem?_eq_getElem hj])
    rw [add_mid] at this
    exact this
set_option maxRecDepth 100000 in
set_option maxHeartbeats 8000000 in
theorem rxor (key nonce : List Nat) (c : Nat) (hk : Bs 32 key) (hn : Bs 12 nonce) (hc : c < 4294967296) (D : List Nat) (hDb : ∀ x ∈ D, x < 256) (hD : D.length ≤ 131072) (a : Option Addr) (cap : Nat) (w : World) (rd : Rd w (.slice a D.length cap) D) :
    Calls Try.prog 18 #[.agg (VN .u8 key), .int .u32 (c : Int), .agg (VN .u8 nonce), .slice a D.length cap] w fun e w' => ∃ u, e = .returned u ∧ Rd w' u (xl D (ks key c nonce) D.length) ∧ Below w.heap.size w w' := by
  obtain ⟨q, hq⟩ : ∃ q, w.heap.size = q := ⟨_, rfl⟩
  obtain ⟨W0, hW0⟩ : ∃ W, ((w.alloc (.cells (VN .u8 key) 23)).alloc (.cells (VN .u8 nonce) 26)).alloc (.cells (VN .u8 (List.replicate 64 0)) 29) = W := ⟨_, rfl⟩
  have hW0' : ((w.alloc (.cells (VN .u8 key) 23)).alloc (.cells (VN .u8 nonce) 26)).alloc (.cells #[.int .u8 0, .int .u8 0, .int .u8 0, .int .u8 0, .int .u8 0, .int .u8 0, .int .u8 0, .int .u8 0, .int .u8 0, .int .u8 0, .int .u8 0, .int .u8 0, .int .u8 0, .int .u8 0, .int .u8 0, .int .u8 0, .int .u8 0, .int .u8 0, .int .u8 0, .int .u8 0, .int .u8 0, .int .u8 0, .int .u8 0, .int .u8 0, .int .u8 0, .int .u8 0, .int .u8 0, .int .u8 0, .int .u8 0, .int .u8 0, .int .u8 0, .int .u8 0, .int .u8 0, .int .u8 0, .int .u8 0, .int .u8 0, .int .u8 0, .int .u8 0, .int .u8 0, .int .u8 0, .int .u8 0, .int .u8 0, .int .u8 0, .int .u8 0, .int .u8 0, .int .u8 0, .int .u8 0, .int .u8 0, .int .u8 0, .int .u8 0, .int .u8 0, .int .u8 0, .int .u8 0, .int .u8 0, .int .u8 0, .int .u8 0, .int .u8 0, .int .u8 0, .int .u8 0, .int .u8 0, .int .u8 0, .int .u8 0, .int .u8 0, .int .u8 0] 29) = W0 := hW0
  have H0 : Hid (XW q w key nonce D (ks key c nonce) (List.replicate 64 0) 0 (.slice none 0 0) W0) := by
    show XW q w key nonce D (ks key c nonce) (List.replicate 64 0) 0 (.slice none 0 0) W0
    rw [← hW0, ← hq]
    refine ⟨(((Below.refl _ _).alloc (Nat.le_refl _) _).alloc (by simp) _).alloc (by simp; omega) _, by simp [size_alloc], ?_, ?_, ?_, World.ownsRow_nil _ _ _ _⟩
    all_goals simp only [RK, heap_alloc_any, size_alloc]
    · rw [if_neg (by omega), if_neg (by omega), if_pos trivial]
    · rw [if_neg (by omega), if_pos trivial]
    · rw [if_pos trivial]
  obtain ⟨n, hnD⟩ : ∃ n, D.length = n := ⟨_, rfl⟩
  have HRD : Hid (∀ i w', i < n → Below q w w' → ∃ b o, a = some ⟨b, o, none⟩ ∧ w'.cell? ⟨b, o + i, none⟩ = some (.int .u8 ((D.getD i 0 : Nat) : Int)) ∧ b < q) := fun i w' hi hb => by
    obtain ⟨a', cap', e, _, hh⟩ := rd
    injection e with e1 e2 e3
    subst e1
    rcases hh with hh | ⟨b, o, rfl, hh⟩
    · rw [hh] at hnD; simp at hnD; omega
    · have c1 := hh i (by omega)
      have hlt : b < q := by rw [← hq]; exact cell_lt c1
      exact ⟨b, o, rfl, by rw [World.cell?_of_block (a := ⟨b, o + i, none⟩) (hb.block b hlt)]; exact c1, hlt⟩
  have HDB : Hid (∀ i, D.getD i 0 < 256) := fun i => (Bs.mk rfl hDb).at i
  have HIK : Hid ((Try.prog.info? 23).map (·.size) = some (VN .u8 key).size) := infoK hk.len
  have HIN : Hid ((Try.prog.info? 26).map (·.size) = some (VN .u8 nonce).size) := infoNn hn.len
  have HRB : Hid (∀ (c' : Nat) (w' : World), c' < 4294967296 → Calls Try.prog 10 #[.agg (VN .u8 key), .int .u32 (c' : Int), .agg (VN .u8 nonce)] w' fun e w'' => e = .returned (.agg (VN .u8 (kb key c' nonce))) ∧ Below w'.heap.size w' w'') := fun c' w' h => rblock key nonce c' hk hn h w'
  have HFin : Hid (∀ u w', w'.ownsRow (q + 3) 5 1 u n (cellsB (xl D (ks key c nonce) n)) → Rd w' u (xl D (ks key c nonce) n)) := fun u w' h => rd_of_owns (xl_len _ _ _) h
  have HQ : Hid (w.heap.size = q) := hq
  rw [hnD] at hD ⊢
  clear hk hn hDb rd hW0
  go_enter Try.func18, Try.ntmps18
  go_wp2
  clear hW0'
  rw [show q + 1 + 1 = q + 2 from rfl]
  go_loopw [9, 11] (fun v u w' => ∃ (i : Nat) (KB : List Nat), i ≤ n ∧ u = .int .i64 (i : Int) ∧ KB.length = 64 ∧ (i % 64 ≠ 0 → KB = kb key ((c + i / 64) % 4294967296) nonce) ∧ XW q w key nonce D (ks key c nonce) KB i v w') (fun _ u _ => n - (intOf u).toNat)
  case atStart => exact ⟨0, List.replicate 64 0, by omega, rfl, List.length_replicate, fun h => absurd rfl h, H0.out⟩
  case round =>
    clear H0
    obtain ⟨i, KB, hi, rfl, hl, hKB, hp⟩ := hrel
    by_cases hlt : i < n
    · have b1 : (i : Int) < (n : Int) := by omega
      have HX8 : Hid (∀ W', XW q w key nonce D (ks key c nonce) (kb key ((c + i / 64) % 4294967296) nonce) i u9 W' → ∃ b oo z y : Nat, a = some ⟨b, oo, none⟩ ∧ bits .xor .u8 ((D.getD i 0 : Nat) : Int) ((y : Nat) : Int) = ((z : Nat) : Int) ∧ (∀ Y, XW q w key nonce D (ks key c nonce) (kb key ((c + i / 64) % 4294967296) nonce) i u9 Y ∨ (∃ v', XW q w key nonce D (ks key c nonce) (kb key ((c + i / 64) % 4294967296) nonce) (i + 1) v' Y) → Y.cell? ⟨b, oo + i, none⟩ = some (.int .u8 ((D.getD i 0 : Nat) : Int)) ∧ Y.cell? ⟨q + 2, i % 64, none⟩ = some (.int .u8 ((y : Nat) : Int))) ∧ ∀ ty, ∃ v' w', (Builtin.append_ #[40, 40] ty #[u9, .slice (some ⟨W'.heap.size, 0, none⟩) 1 1]).run Try.prog (W'.drew.alloc (.cells #[.int .u8 ((z : Nat) : Int)] 5)) = .ok v' w' ∧ XW q w key nonce D (ks key c nonce) (kb key ((c + i / 64) % 4294967296) nonce) (i + 1) v' w') := fun W' h => by
        obtain ⟨b, oo, rfl, c1, hbq⟩ := HRD.out i W' hlt h.old
        refine ⟨b, oo, D.getD i 0 ^^^ ks key c nonce i, ks key c nonce i, rfl, u8_xor_nat _ _ (HDB.out i) (ks_lt _ _ _ _), fun Y hY => ?_, fun ty => h.app _ rfl (by omega) ty⟩
        have hY2 : Below q w Y ∧ RK Y (q + 2) (kb key ((c + i / 64) % 4294967296) nonce) 29 := by
          rcases hY with hY | ⟨v', hY⟩
          · exact ⟨hY.old, hY.hb⟩
          · exact ⟨hY.old, hY.hb⟩
        obtain ⟨b', oo', e, c2, _⟩ := HRD.out i Y hlt hY2.1
        injection e with e; injection e with e1 e2; subst e1; subst e2
        refine ⟨c2, ?_⟩
        rw [hY2.2.cell (by rw [kb_len]; exact Nat.mod_lt _ (by decide)), kb_ks]
      by_cases h64 : i % 64 = 0
      · have b2 : ((i : Int) % 64 == 0) = true := by simp; omega
        have b3 : (i : Int) % 64 = 0 := by omega
        obtain ⟨c', hc'⟩ : ∃ c', (c + i / 64) % 4294967296 = c' := ⟨_, rfl⟩
        have e1 : ((c : Int) + (i : Int) / 64) % 4294967296 = (c' : Int) := by omega
        have hcl : c' < 4294967296 := by omega
        have e2 : IntKind.u32.wrap (c' : Int) = (c' : Int) := by rw [IntKind.wrap_u32']; omega
        rw [hc'] at HX8
        have CB : Hid _ := HRB.out c' wr hcl
        have HP : Hid (XW q w key nonce D (ks key c nonce) KB i u9 wr) := hp
        have HIB : Hid ((Try.prog.info? 29).map (·.size) = some (VN .u8 (kb key c' nonce)).size) := infoB (kb_len _ _ _)
        have HSB : Hid ((VN .u8 KB).size = (VN .u8 (kb key c' nonce)).size) := by
          have : (VN .u8 KB).size = (VN .u8 (kb key c' nonce)).size := by rw [VN_size, VN_size, kb_len, hl]
          exact this
        have HC' : Hid ((c + i / 64) % 4294967296 = c') := hc'
        clear hp hKB hc'
        go_upto_region 8 with (first | (go_at_call 10; refine Calls.mono CB.out ?_; rintro e w2 ⟨rfl, hb2⟩; have h2 := HP.out.below hb2; have H2 : Hid _ := h2; clear h2 hb2) | (with_reducible refine at_list ?_; first | (refine wpList_load_row rfl 23 (.tmp 4) rfl q rfl 23 (VN .u8 key) (0, 0) _ HP.out.hk Try.underlying23 rfl HIK.out ?_) | (refine wpList_load_row rfl 26 (.tmp 6) rfl (q + 1) rfl 26 (VN .u8 nonce) (0, 0) _ HP.out.hn Try.underlying26 rfl HIN.out ?_) | (refine wpList_store_row rfl 29 (.tmp 10) (.tmp 30) rfl (q + 2) (VN .u8 (kb key c' nonce)) rfl rfl 29 (VN .u8 KB) H2.out.hb HIB.out HSB.out (VN_one _ _) ?_)))
        obtain ⟨W2, hW2⟩ : ∃ W, w2.setRow (q + 2) (VN .u8 (kb key c' nonce)) = W := ⟨_, rfl⟩
        have h3 : XW q w key nonce D (ks key c nonce) (kb key c' nonce) i u9 W2 := by rw [← hW2]; exact H2.out.row
        obtain ⟨b, oo, z, y, rfl, hx, hS, hA⟩ := HX8.out W2 h3
        have HI : Hid (i < n) := hlt
        have HJ : Hid (i < 9223372036854775808) := by show i < 9223372036854775808; omega
        have HXx : Hid _ := hx
        have HAP : Hid _ := hA
        have HSx : Hid _ := hS W2.drew (.inl (h3.below ⟨rfl, rfl, rfl, Nat.le_refl _, fun _ _ => rfl⟩))
        have hSA := hS (W2.drew.alloc (.cells #[.int .u8 ((z : Nat) : Int)] 5)) (.inl (h3.below ⟨rfl, rfl, rfl, by simp, fun k hk => by rw [heap_alloc_any, if_neg (by show ¬ k = W2.heap.size; omega)]; rfl⟩))
        rw [hW2]
        refine wp_as (c' := rgRx8) (by kernel_rfl) ?_
        refine Rx8 (R := fun v' w' => XW q w key nonce D (ks key c nonce) (kb key c' nonce) (i + 1) v' w') HI HJ HXx HAP HSx hSA (fun v' w' h => hS w' (.inr ⟨v', h⟩)) (fun _ _ d _ _ h => by cases d <;> exact h) ?_
        intro v' w' hr
        have HR : Hid _ := hr
        clear hr hS hA hx HAP HSx hSA h3 HX8 hW2 HXx
        go_wp2
        go_roundw
        case rel => exact ⟨i + 1, kb key c' nonce, by omega, by go_num, kb_len _ _ _, fun h => by rw [← HC'.out, show (i + 1) / 64 = i / 64 by omega], HR.out⟩
        case measure => simp [intOf]; omega
      · have b3 : ¬ (i : Int) % 64 = 0 := by omega
        have b2 : ((i : Int) % 64 == 0) = false := by simp; omega
        obtain ⟨c', hc'⟩ : ∃ c', (c + i / 64) % 4294967296 = c' := ⟨_, rfl⟩
        have hKBx := hKB h64
        rw [hc'] at HX8 hKBx
        have HP : Hid (XW q w key nonce D (ks key c nonce) (kb key c' nonce) i u9 wr) := hKBx ▸ hp
        have HC' : Hid ((c + i / 64) % 4294967296 = c') := hc'
        clear hp hKB hc'
        go_upto_region 8 with fail
        obtain ⟨W2, hW2⟩ : ∃ W, wr = W := ⟨_, rfl⟩
        have h3 : XW q w key nonce D (ks key c nonce) (kb key c' nonce) i u9 W2 := by rw [← hW2]; exact HP.out
        obtain ⟨b, oo, z, y, rfl, hx, hS, hA⟩ := HX8.out W2 h3
        have HI : Hid (i < n) := hlt
        have HJ : Hid (i < 9223372036854775808) := by show i < 9223372036854775808; omega
        have HXx : Hid _ := hx
        have HAP : Hid _ := hA
        have HSx : Hid _ := hS W2.drew (.inl (h3.below ⟨rfl, rfl, rfl, Nat.le_refl _, fun _ _ => rfl⟩))
        have hSA := hS (W2.drew.alloc (.cells #[.int .u8 ((z : Nat) : Int)] 5)) (.inl (h3.below ⟨rfl, rfl, rfl, by simp, fun k hk => by rw [heap_alloc_any, if_neg (by show ¬ k = W2.heap.size; omega)]; rfl⟩))
        rw [hW2]
        refine wp_as (c' := rgRx8) (by kernel_rfl) ?_
        refine Rx8 (R := fun v' w' => XW q w key nonce D (ks key c nonce) (kb key c' nonce) (i + 1) v' w') HI HJ HXx HAP HSx hSA (fun v' w' h => hS w' (.inr ⟨v', h⟩)) (fun _ _ d _ _ h => by cases d <;> exact h) ?_
        intro v' w' hr
        have HR : Hid _ := hr
        clear hr hS hA hx HAP HSx hSA h3 HX8 hW2 HXx
        go_wp2
        go_roundw
        case rel => exact ⟨i + 1, kb key c' nonce, by omega, by go_num, kb_len _ _ _, fun h => by rw [← HC'.out, show (i + 1) / 64 = i / 64 by omega], HR.out⟩
        case measure => simp [intOf]; omega
    · have b1 : ¬ (i : Int) < (n : Int) := by omega
      have hi' : i = n := by omega
      have HP : Hid (Rd wr u9 (xl D (ks key c nonce) n) ∧ Below q w wr) := ⟨HFin.out _ _ (hi' ▸ hp.own), hp.old⟩
      clear hp HFin hKB hi'
      go_wp2
      go_ret
      exact ⟨u9, rfl, HP.out.1, by first | exact HP.out.2 | (rw [HQ.out]; exact HP.out.2)⟩
end Go.Proofs.Ytefnlaookmpbhaa
