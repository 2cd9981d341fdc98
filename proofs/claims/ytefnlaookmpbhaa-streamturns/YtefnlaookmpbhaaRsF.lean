import Derived.Test.YtefnlaookmpbhaaStrU
import Derived.Test.YtefnlaookmpbhaaTrE
import Derived.Test.YtefnlaookmpbhaaStK
namespace Go.Proofs.Ytefnlaookmpbhaa
set_option linter.unusedSimpArgs false
set_option linter.unusedVariables false
open Go.ChangeShapes Go.WideShapes Go.ChangeAt Go.RowKit Go.Pin Go.Str
theorem wpList_app {P : Program} (w : World) {ops : Array Oper} {rest : List Oper} {o : Oper} {a : Act} {Q : Exit → Act → World → Prop} {R : Value → World → Prop} (hgd : o.guard = none) (d s : Operand) (t t' : TypeId)
    (ho : o.op = .call { callee := .builtin .append, args := #[d, s], argTypes := #[t, t'] }) (v u : Value) (hd : a.eval d = v) (hs : a.eval s = u)
    (hr : ∀ ty, ∃ v' w', (Builtin.append_ #[t, t'] ty #[v, u]).run P w = .ok v' w' ∧ R v' w') (h : ∀ v' w', R v' w' → wpList P ops Q rest (a.put o.dst v') w') : wpList P ops Q (o :: rest) a w :=
  wpList_plain hgd fun _ hK => by
    obtain ⟨v', w', h1, h2⟩ := hr o.type
    unfold Oper.wp execOp
    simp only [ho, resolve, invoke, builtin, Sem.run_bind, Sem.run_pure, Result.andThen_ok, List.map_toArray, List.map_cons, List.map_nil, hd, hs, h1]
    exact hK _ _ (h v' w' h2)
structure EW (B : Nat) (w : World) (v : Value) (l : List (Int × Int)) (wr : World) : Prop where
  old : Below B w wr
  le : B ≤ wr.heap.size
  own : wr.ownsRow B 36 2 v l.length (evC l)
theorem EW.app {B : Nat} {w : World} {v : Value} {l : List (Int × Int)} {wr : World} (h : EW B w v l wr) {W : World} (hb : Below wr.heap.size wr W) (news : List (Int × Int)) {g k : Nat} (hk : k = news.length) (hrow : W.heap[g]? = some (.cells (evC news).toArray 36 (0, 0))) (hl : l.length + k ≤ 1000000) (ty : TypeId) :
    ∃ v' w', (Builtin.append_ #[33, 33] ty #[v, .slice (some ⟨g, 0, none⟩) k k]).run Try.prog W = .ok v' w' ∧ EW B w v' (l ++ news) w' := by
  subst hk
  obtain ⟨i0, hi0, hz0⟩ := Option.map_eq_some_iff.1 info37
  simp only [Prod.mk.injEq] at hz0
  obtain ⟨hz1, hz2, hz3⟩ := hz0
  have ho := owns_below h.own hb
  have hBW : B ≤ W.heap.size := Nat.le_trans h.le hb.size
  obtain ⟨v', w', hr, h2, h3, _, h5⟩ := run_append_own_at (P := Try.prog) W B 33 ty 36 i0 (.agg #[.int .i64 0, .int .i64 0]) 2 16 Try.underlying33 hi0 hz1 hz2 hz3 rfl (by decide) v l.length (evC l) ho ⟨g, 0, none⟩ news.length news.length (evC news) (evC_len news) (fun j u hj => by
      rw [add_mid, cell_of_row _ _ _ _ _ _ hrow, Nat.zero_add]
      simpa using hj) (fun u hu => by
      simp only [evC, List.mem_flatMap, List.mem_cons, List.not_mem_nil, or_false] at hu
      obtain ⟨x, _, rfl | rfl⟩ := hu <;> rfl) (by unfold maxLen; omega) (by omega) hBW
  refine ⟨v', w', hr, (h.old.trans (hb.mono h.le)).trans ⟨h3.os, h3.tape, h3.output, h3.size, fun k hk => h3.block k (by omega) (fun e => by have := (ho.lt k e.symm).1; omega)⟩, Nat.le_trans hBW h3.size, ?_⟩
  rw [List.length_append, evC_app]
  exact h2
set_option maxRecDepth 100000 in
set_option maxHeartbeats 8000000 in
theorem revents (n : Nat) (hn : n ≤ 131072) (w : World) :
    Calls Try.prog 19 #[.int .i64 (n : Int)] w fun e w' => ∃ u, e = .returned u ∧ EW w.heap.size w u (xlog n) w' := by
  obtain ⟨B, hB⟩ : ∃ B, w.heap.size = B := ⟨_, rfl⟩
  have H0 : Hid (EW B w (.slice none 0 0) (log4 0) w) := ⟨Below.refl _ _, by rw [hB]; exact Nat.le_refl _, World.ownsRow_nil _ _ _ _⟩
  rw [hB]
  clear hB
  go_enter Try.func19, Try.ntmps19
  go_wp2
  go_loopw [3, 4] (fun v u w' => ∃ k : Nat, 256 * k ≤ n ∧ u = .int .i64 ((256 * k : Nat) : Int) ∧ EW B w v (log4 k) w') (fun _ u _ => n - (intOf u).toNat)
  case atStart => exact ⟨0, by omega, rfl, H0.out⟩
  case round =>
    clear H0
    obtain ⟨k, hk, rfl, hp⟩ := hrel
    obtain ⟨a, ha⟩ : ∃ a, 256 * k = a := ⟨_, rfl⟩
    rw [ha] at hk ⊢
    have HAK : Hid (256 * k = a) := ha
    have HLG : Hid ((log4 k).length ≤ 399990) := by
      have : (log4 k).length ≤ 399990 := by rw [log4_len]; omega
      exact this
    have HP : Hid (EW B w u3 (log4 k) wr) := hp
    clear hp ha
    by_cases hlt : a + 256 ≤ n
    · have b0 : (256 : Int) ≤ (n : Int) - (a : Int) := by omega
      obtain ⟨g, hg⟩ : ∃ g, wr.heap.size + 1 + 1 + 1 = g := ⟨_, rfl⟩
      have HAP : Hid (∀ ty, ∃ v' w', (Builtin.append_ #[33, 33] ty #[u3, .slice (some ⟨wr.heap.size + 1 + 1 + 1, 0, none⟩) 3 3]).run Try.prog ((((wr.alloc (.cells #[.int .i64 1, .int .i64 1] 36)).alloc (.cells #[.int .i64 2, .int .i64 (a : Int)] 36)).alloc (.cells #[.int .i64 3, .int .i64 21] 36)).alloc (.cells #[.int .i64 1, .int .i64 1, .int .i64 2, .int .i64 (a : Int), .int .i64 3, .int .i64 21] 36)) = .ok v' w' ∧ EW B w v' (log4 k ++ [(1, 1), (2, (a : Int)), (3, 21)]) w') := fun ty => HP.out.app (((((Below.refl _ _).alloc (Nat.le_refl _) _).alloc (by simp) _).alloc (by simp; omega) _).alloc (by simp; omega) _) [(1, 1), (2, (a : Int)), (3, 21)] rfl (by rw [heap_alloc_any, if_pos (by simp [size_alloc])]; rfl) (by have := HLG.out; simp only [List.length_cons, List.length_nil]; omega) ty
      clear hg
      go_wp2_with (first | (go_at_call 33; refine (rif2 true _).mono ?_; rintro e w2 ⟨rfl, hw⟩; obtain rfl := hw) | (go_at_call 34; refine (rat2 (a : Int) _).mono ?_; rintro e w3 ⟨rfl, hw⟩; obtain rfl := hw) | (go_at_call 14; refine (rop2 21 _).mono ?_; rintro e w4 ⟨rfl, hw⟩; obtain rfl := hw) | (at_builtin; refine wpList_app _ rfl (.tmp 9) (.tmp 14) 33 33 rfl _ _ rfl rfl HAP.out ?_; intro v' w' hr; have HR : Hid _ := hr; clear hr HAP))
      go_roundw
      case rel =>
        refine ⟨k + 1, by have := HAK.out; omega, congrArg (Value.int .i64) (by have := HAK.out; omega), ?_⟩
        have h := HR.out
        have e := HAK.out
        rw [show log4 (k + 1) = log4 k ++ [(1, 1), (2, ((256 * k : Nat) : Int)), (3, 21)] from rfl, e]
        simpa only [List.append_assoc, List.cons_append, List.nil_append] using h
      case measure => have := hlt; simp only [intOf]; omega
    · have b0 : ¬ (256 : Int) ≤ (n : Int) - (a : Int) := by omega
      have HAP : Hid (∀ ty, ∃ v' w', (Builtin.append_ #[33, 33] ty #[u3, .slice (some ⟨wr.heap.size + 1, 0, none⟩) 1 1]).run Try.prog ((wr.alloc (.cells #[.int .i64 1, .int .i64 0] 36)).alloc (.cells #[.int .i64 1, .int .i64 0] 36)) = .ok v' w' ∧ EW B w v' (log4 k ++ [(1, 0)]) w') := fun ty => HP.out.app (((Below.refl _ _).alloc (Nat.le_refl _) _).alloc (by simp) _) [(1, 0)] rfl (by rw [heap_alloc_any, if_pos (by simp [size_alloc])]; rfl) (by have := HLG.out; simp only [List.length_cons, List.length_nil]; omega) ty
      go_wp2_with (first | (go_at_call 33; refine (rif2 false _).mono ?_; rintro e w2 ⟨rfl, hw⟩; obtain rfl := hw) | (at_builtin; refine wpList_app _ rfl (.tmp 18) (.tmp 20) 33 33 rfl _ _ rfl rfl HAP.out ?_; intro v1 w1 hr; have H1 : Hid _ := hr; clear hr HAP))
      obtain ⟨A, hA⟩ : ∃ A, a = A := ⟨_, rfl⟩
      have HKA : Hid (256 * k = A ∧ A + 256 > n) := by have := HAK.out; exact ⟨by omega, by omega⟩
      have HL2 : Hid ((log4 k ++ [(1, 0)]).length ≤ 380000) := by
        have : (log4 k ++ [(1, 0)]).length ≤ 380000 := by have := HAK.out; simp only [List.length_append, List.length_cons, List.length_nil, log4_len]; omega
        exact this
      have HQ : Hid (EW B w v1 (log4 k ++ [(1, 0)] ++ log1 A 0) w1) := by
        show EW B w v1 (log4 k ++ [(1, 0)] ++ []) w1
        rw [List.append_nil]; exact H1.out
      have hAn : A ≤ n := by omega
      have hA2 : n < A + 256 := by omega
      have HA640 : Hid (A % 64 = 0) := by have := HAK.out; show A % 64 = 0; omega
      clear H1 HP HLG HAK b0 hlt
      rw [hA]
      clear hA hk
      generalize hLG : log4 k ++ [(1, 0)] = LQ at *
      have HLGE : Hid (log4 k ++ [(1, 0)] = LQ) := hLG
      clear hLG
      go_loopw [3, 4] (fun v u w' => ∃ k2 : Nat, A + 64 * k2 ≤ n ∧ u = .int .i64 ((A + 64 * k2 : Nat) : Int) ∧ EW B w v (LQ ++ log1 A k2) w') (fun _ u _ => n - (intOf u).toNat)
      case atStart => exact ⟨0, by omega, rfl, HQ.out⟩
      case round =>
        clear HQ
        obtain ⟨k2, hk, rfl, hp⟩ := hrel
        obtain ⟨a, ha⟩ : ∃ a, A + 64 * k2 = a := ⟨_, rfl⟩
        rw [ha] at hk ⊢
        have HAK : Hid (A + 64 * k2 = a) := ha
        have HLG : Hid ((LQ ++ log1 A k2).length ≤ 399990) := by
          have : (LQ ++ log1 A k2).length ≤ 399990 := by have := HL2.out; rw [List.length_append, log1_len]; omega
          exact this
        have HP : Hid (EW B w u3 (LQ ++ log1 A k2) wr) := hp
        have HA64 : Hid (a % 64 = 0) := by have := HA640.out; show a % 64 = 0; omega
        clear hp ha
        by_cases hlt : a + 64 ≤ n
        · have b0 : (64 : Int) ≤ (n : Int) - (a : Int) := by omega
          obtain ⟨g, hg⟩ : ∃ g, wr.heap.size + 1 + 1 + 1 = g := ⟨_, rfl⟩
          have HAP : Hid (∀ ty, ∃ v' w', (Builtin.append_ #[33, 33] ty #[u3, .slice (some ⟨wr.heap.size + 1 + 1 + 1, 0, none⟩) 3 3]).run Try.prog ((((wr.alloc (.cells #[.int .i64 1, .int .i64 1] 36)).alloc (.cells #[.int .i64 2, .int .i64 (a : Int)] 36)).alloc (.cells #[.int .i64 3, .int .i64 22] 36)).alloc (.cells #[.int .i64 1, .int .i64 1, .int .i64 2, .int .i64 (a : Int), .int .i64 3, .int .i64 22] 36)) = .ok v' w' ∧ EW B w v' ((LQ ++ log1 A k2) ++ [(1, 1), (2, (a : Int)), (3, 22)]) w') := fun ty => HP.out.app (((((Below.refl _ _).alloc (Nat.le_refl _) _).alloc (by simp) _).alloc (by simp; omega) _).alloc (by simp; omega) _) [(1, 1), (2, (a : Int)), (3, 22)] rfl (by rw [heap_alloc_any, if_pos (by simp [size_alloc])]; rfl) (by have := HLG.out; simp only [List.length_cons, List.length_nil]; omega) ty
          clear hg
          go_wp2_with (first | (go_at_call 33; refine (rif2 true _).mono ?_; rintro e w2 ⟨rfl, hw⟩; obtain rfl := hw) | (go_at_call 34; refine (rat2 (a : Int) _).mono ?_; rintro e w3 ⟨rfl, hw⟩; obtain rfl := hw) | (go_at_call 14; refine (rop2 22 _).mono ?_; rintro e w4 ⟨rfl, hw⟩; obtain rfl := hw) | (at_builtin; refine wpList_app _ rfl (.tmp 26) (.tmp 31) 33 33 rfl _ _ rfl rfl HAP.out ?_; intro v' w' hr; have HR : Hid _ := hr; clear hr HAP))
          go_roundw
          case rel =>
            refine ⟨k2 + 1, by have := HAK.out; omega, congrArg (Value.int .i64) (by have := HAK.out; omega), ?_⟩
            have h := HR.out
            have e := HAK.out
            rw [show log1 A (k2 + 1) = log1 A k2 ++ [(1, 1), (2, ((A + 64 * k2 : Nat) : Int)), (3, 22)] from rfl, e]
            simpa only [List.append_assoc, List.cons_append, List.nil_append] using h
          case measure => have := hlt; simp only [intOf]; omega
        · have b0 : ¬ (64 : Int) ≤ (n : Int) - (a : Int) := by omega
          have hkn : n / 256 = k ∧ n % 256 / 64 = k2 ∧ 256 * (n / 256) = A ∧ 64 * (n / 64) = a ∧ (0 < n % 64 ↔ a < n) := by have e1 := HKA.out; have e2 := HAK.out; omega
          have HLX : Hid (∀ t, (if 0 < n % 64 then [((1 : Int), (1 : Int)), (2, ((64 * (n / 64) : Nat) : Int)), (3, 22)] else [(1, 0)]) = t → xlog n = LQ ++ log1 A k2 ++ [(1, 0)] ++ t) := fun t ht => by
            unfold xlog
            rw [ht, hkn.1, hkn.2.1, show 256 * k = A from HKA.out.1, HLGE.out]
          have HTA : Hid (64 * (n / 64) = a ∧ (0 < n % 64 ↔ a < n)) := ⟨hkn.2.2.2.1, hkn.2.2.2.2⟩
          clear hkn HKA HAK HL2 HA640 HLGE
          by_cases hlt2 : a < n
          · have b1 : (0 : Int) < (n : Int) - (a : Int) := by omega
            have HE : Hid (xlog n = LQ ++ log1 A k2 ++ [(1, 0)] ++ [(1, 1), (2, (a : Int)), (3, 22)]) := HLX.out _ (by rw [if_pos (HTA.out.2.2 hlt2), HTA.out.1])
            clear HLX HTA
            have HAP : Hid (∀ ty, ∃ v' w', (Builtin.append_ #[33, 33] ty #[u3, .slice (some ⟨wr.heap.size + 1 + 1, 0, none⟩) 2 2]).run Try.prog (((wr.alloc (.cells #[.int .i64 1, .int .i64 0] 36)).alloc (.cells #[.int .i64 1, .int .i64 1] 36)).alloc (.cells #[.int .i64 1, .int .i64 0, .int .i64 1, .int .i64 1] 36)) = .ok v' w' ∧ EW B w v' (LQ ++ log1 A k2 ++ [(1, 0), (1, 1)]) w') := fun ty => HP.out.app ((((Below.refl _ _).alloc (Nat.le_refl _) _).alloc (by simp) _).alloc (by simp; omega) _) [(1, 0), (1, 1)] rfl (by rw [heap_alloc_any, if_pos (by simp [size_alloc])]; rfl) (by have := HLG.out; simp only [List.length_cons, List.length_nil]; omega) ty
            have HLG2 : Hid ((LQ ++ log1 A k2 ++ [(1, 0), (1, 1)]).length ≤ 399995) := by
              have : (LQ ++ log1 A k2 ++ [(1, 0), (1, 1)]).length ≤ 399995 := by have := HLG.out; rw [List.length_append]; simp only [List.length_cons, List.length_nil]; omega
              exact this
            go_wp2_with (first | (go_at_call 33; first | (refine (rif2 false _).mono ?_; rintro e w2 ⟨rfl, hw⟩; obtain rfl := hw) | (refine (rif2 true _).mono ?_; rintro e w2 ⟨rfl, hw⟩; obtain rfl := hw)) | (go_at_call 34; refine (rat2 (a : Int) _).mono ?_; rintro e w3 ⟨rfl, hw⟩; obtain rfl := hw) | (go_at_call 14; refine (rop2 22 _).mono ?_; rintro e w4 ⟨rfl, hw⟩; obtain rfl := hw) | (at_builtin; first | (refine wpList_app _ rfl (.tmp 35) (.tmp 42) 33 33 rfl _ _ rfl rfl HAP.out ?_; intro v5 w5 hr; have H5 : Hid (EW B w v5 (LQ ++ log1 A k2 ++ [(1, 0), (1, 1)]) w5) := hr; have HAP2 : Hid (∀ ty, ∃ v' w', (Builtin.append_ #[33, 33] ty #[v5, .slice (some ⟨w5.heap.size + 1 + 1, 0, none⟩) 2 2]).run Try.prog (((w5.alloc (.cells #[.int .i64 2, .int .i64 (a : Int)] 36)).alloc (.cells #[.int .i64 3, .int .i64 22] 36)).alloc (.cells #[.int .i64 2, .int .i64 (a : Int), .int .i64 3, .int .i64 22] 36)) = .ok v' w' ∧ EW B w v' (LQ ++ log1 A k2 ++ [(1, 0), (1, 1)] ++ [(2, (a : Int)), (3, 22)]) w') := fun ty => H5.out.app ((((Below.refl _ _).alloc (Nat.le_refl _) _).alloc (by simp) _).alloc (by simp; omega) _) [(2, (a : Int)), (3, 22)] rfl (by rw [heap_alloc_any, if_pos (by simp [size_alloc])]; rfl) (by have := HLG2.out; simp only [List.length_cons, List.length_nil]; omega) ty; clear hr HAP) | (refine wpList_app _ rfl (.tmp 48) (.tmp 52) 33 33 rfl _ _ rfl rfl HAP2.out ?_; intro v6 w6 hr; have H6 : Hid _ := hr; clear hr HAP2)))
            go_ret
            refine ⟨v6, rfl, ?_⟩
            rw [HE.out]
            simpa only [List.append_assoc, List.cons_append, List.nil_append] using H6.out
          · have b1 : ¬ (0 : Int) < (n : Int) - (a : Int) := by omega
            have HE : Hid (xlog n = LQ ++ log1 A k2 ++ [(1, 0)] ++ [(1, 0)]) := HLX.out _ (by rw [if_neg (fun h => hlt2 (HTA.out.2.1 h))])
            clear HLX HTA
            have HAP : Hid (∀ ty, ∃ v' w', (Builtin.append_ #[33, 33] ty #[u3, .slice (some ⟨wr.heap.size + 1 + 1, 0, none⟩) 2 2]).run Try.prog (((wr.alloc (.cells #[.int .i64 1, .int .i64 0] 36)).alloc (.cells #[.int .i64 1, .int .i64 0] 36)).alloc (.cells #[.int .i64 1, .int .i64 0, .int .i64 1, .int .i64 0] 36)) = .ok v' w' ∧ EW B w v' (LQ ++ log1 A k2 ++ [(1, 0), (1, 0)]) w') := fun ty => HP.out.app ((((Below.refl _ _).alloc (Nat.le_refl _) _).alloc (by simp) _).alloc (by simp; omega) _) [(1, 0), (1, 0)] rfl (by rw [heap_alloc_any, if_pos (by simp [size_alloc])]; rfl) (by have := HLG.out; simp only [List.length_cons, List.length_nil]; omega) ty
            go_wp2_with (first | (go_at_call 33; refine (rif2 false _).mono ?_; rintro e w2 ⟨rfl, hw⟩; obtain rfl := hw) | (at_builtin; refine wpList_app _ rfl (.tmp 35) (.tmp 42) 33 33 rfl _ _ rfl rfl HAP.out ?_; intro v5 w5 hr; have H5 : Hid _ := hr; clear hr HAP))
            go_ret
            refine ⟨v5, rfl, ?_⟩
            rw [HE.out]
            simpa only [List.append_assoc, List.cons_append, List.nil_append] using H5.out
end Go.Proofs.Ytefnlaookmpbhaa
