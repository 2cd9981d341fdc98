import Derived.Test.YtfkbgodfcnmepaaDoorDmas
namespace Go.Proofs.YtfkbgodfcnmepaaDoor
set_option linter.unusedSimpArgs false
set_option linter.unusedVariables false
open Go.ChangeShapes Go.WideShapes Go.ChangeAt Go.RowKit Go.Pin Go.Str Go.Dig
theorem wp_region_quiet_in {P : Program} {C : World → Prop} {id : Nat} {Q : Exit → Act → World → Prop} {a : Act} {w : World} {l : List Oper} (hm : P.follows .mixedOrders = true) (hB : Region.lexB .any l.toArray = true) (hC : C w.drew)
    (h : wpQuiet P l.toArray C (fun a' => ∀ w', C w' → Q .normal a' w') l a) : (Code.region id l.toArray true).wp P Q a w :=
  wp_region_quiet (C := C) hm hB hC (by simpa using h)
theorem if_pos_mpr {c : Prop} [Decidable c] {a b : Prop} (hc : c) (h : a) : if c then a else b := by rw [if_pos hc]; exact h
theorem quietAt_load_row {P : Program} {C : World → Prop} {o : Oper} {a : Act} {Y : World} (ty : TypeId) (x : Operand) (ho : o.op = .load ty x) (g : Nat) (hx : a.eval x = .pointer (some ⟨g, 0, none⟩)) (t : TypeId) (cs : Array Value) (fr : Nat × Nat) (d : TypeDesc) (hg : Y.heap[g]? = some (.cells cs t fr))
    (hu : P.underlying ty = some d) (hd : (match d with | .struct _ | .array _ _ => true | _ => false) = true) (hi : (P.info? ty).map (·.size) = some cs.size) : o.quietAt P a C Y (.agg cs) := by
  unfold Oper.quietAt execOp
  simp only [ho, hx, Instr.loadAt, Instr.sureAddr, Sem.run_bind, Sem.run_pure, Result.andThen_ok, run_loadVar_row Y g t ty cs fr d hg hu hd hi]
  exact ⟨rfl, rfl⟩
/-- a Hash that takes the bytes one by one -/
def B8 (q : Nat) (W : World) (g p7 : Nat) (D : List Int) (i : Nat) (w' : World) : Prop := ∃ b, HSb (D.take i) b ∧ Ev q W (.pointer none) [] [(g, h32 (D.take i) b), (p7, k32 D)] w'
section
variable {q : Nat} {W : World} {g p7 : Nat} {D : List Int} {i : Nat} {w' w2 : World}
theorem B8.old (h : B8 q W g p7 D i w') : Below q W w' := by obtain ⟨b, h1, h2⟩ := h; exact h2.old
theorem B8.le (h : B8 q W g p7 D i w') : q ≤ w'.heap.size := by obtain ⟨b, h1, h2⟩ := h; exact h2.le
theorem B8.row (h : B8 q W g p7 D i w') : w'.heap[p7]? = some (k32 D) := by obtain ⟨b, h1, h2⟩ := h; exact h2.row mem1
theorem B8.drew (h : B8 q W g p7 D i w') : B8 q W g p7 D i w'.drew := by obtain ⟨b, h1, h2⟩ := h; exact ⟨b, h1, h2.drew⟩
theorem B8.below (h : B8 q W g p7 D i w') (hb : Below w'.heap.size w' w2) : B8 q W g p7 D i w2 := by obtain ⟨b, h1, h2⟩ := h; exact ⟨b, h1, h2.below hb⟩
theorem B8.write (h : B8 q W g p7 D i w') (hB : Beg W) (h2q : 2 ≤ q) (hg : p7 ≠ g) (hD : Byt D) (hDl : D.length ≤ 131072) {u : Value} (hu : Src q W [(p7, k32 D)] u ((D.drop i).take 1)) : Calls Tryd.prog 23 #[.pointer (some ⟨g, 0, none⟩), u] w' fun e w2 => e = .returned (.tuple #[]) ∧ B8 q W g p7 D (i + 1) w2 := by
  obtain ⟨b, h1, h2⟩ := h
  have hl : (D.take i).length + ((D.drop i).take 1).length ≤ 200000 := by simp only [List.length_take, List.length_drop]; omega
  refine (dwrite_src h1 h2 h0_32 (fun h => absurd rfl h) (fun p hp => by rw [List.mem_singleton.1 hp]; exact hg) hu (fun z hz => hD z (List.mem_of_mem_drop (List.mem_of_mem_take hz))) (by omega) hB h2q).mono ?_
  rintro e w2 ⟨rfl, b2, k1, k2⟩
  rw [← List.take_add] at k1 k2
  exact ⟨rfl, b2, k1, k2.nilOf []⟩
theorem B8.sum (h : B8 q W g p7 D i w') (hB : Beg W) (h2q : 2 ≤ q) (hg : p7 ≠ g) (hDl : D.length ≤ 131072) : Calls Tryd.prog 22 #[.pointer (some ⟨g, 0, none⟩)] w' fun e w2 => ∃ u, e = .returned u ∧ B8 q W g p7 D i w2 ∧ RdB w2 u (dig 32 [] (D.take i)) := by
  obtain ⟨b, h1, h2⟩ := h
  have hl : (D.take i).length ≤ 200000 := by simp only [List.length_take]; omega
  refine (dsum_any h1 h2 h0_32 (by decide) (fun h => absurd rfl h) (fun p hp => by rw [List.mem_singleton.1 hp]; exact hg) (by omega) hB h2q).mono ?_
  rintro e w2 ⟨g2, rfl, k1, k2⟩
  exact ⟨_, rfl, ⟨b, h1, k2.tail.nilOf []⟩, row_rd (k2.row mem0) (spl_len _ _) (Nat.le_refl _)⟩
end
theorem below_drew (w : World) : Below w.heap.size w w.drew := ⟨rfl, rfl, rfl, Nat.le_refl _, fun _ _ => rfl⟩
theorem wrapM {x m n : Nat} (h : x + m ≤ n) (hn : n ≤ 131072) : wrap64 ((x : Int) + (m : Int)) = ((x + m : Nat) : Int) := by
  rw [IntWalk.wrap64_in _ ⟨by omega, by omega⟩]
  omega
theorem wrapD {x n : Nat} (h : x ≤ n) (hn : n ≤ 131072) : wrap64 ((n : Int) - (x : Int)) = ((n - x : Nat) : Int) := by
  rw [IntWalk.wrap64_in _ ⟨by omega, by omega⟩]
  omega
theorem wrapM' {x m n : Nat} (h : x + m ≤ n) (hn : n ≤ 131072) : IntKind.i64.wrap ((x : Int) + (m : Int)) = ((x + m : Nat) : Int) := by
  rw [IntWalk.i64_in _ ⟨by omega, by omega⟩]
  omega
theorem wrapD' {x n : Nat} (h : x ≤ n) (hn : n ≤ 131072) : IntKind.i64.wrap ((n : Int) - (x : Int)) = ((n - x : Nat) : Int) := by
  rw [IntWalk.i64_in _ ⟨by omega, by omega⟩]
  omega
theorem eqT {x y : List Int} (hx : x.length = 32) (hy : y.length = 32) (w : World) : (Op.equalIn 10000 54 (.agg (VI .u8 x)) (.agg (VI .u8 y))).run Tryd.prog w = .ok (x == y) w :=
  run_equalIn_row w 9998 54 5 .u8 32 x y hx hy Tryd.underlying54 Tryd.underlying5 size_u8
theorem neqT {x : List Int} (hx : x.length = 32) (w : World) : (Op.equalIn 10000 54 (.agg (VI .u8 x)) (.agg (VI .u8 x))).run Tryd.prog w = .ok true w := by
  rw [eqT hx hx, beq_self_eq_true]
set_option maxRecDepth 100000 in
set_option maxHeartbeats 40000000 in
theorem cuts_walk (D : List Int) (hDb : Byt D) (a : Option Addr) (cap : Nat) (W : World) (hR : RdB W (.slice a D.length cap) D) (C : List Int) (ac : Option Addr) (capc : Nat) (hC : ∀ x ∈ C, -9223372036854775808 ≤ x ∧ x < 9223372036854775808) (hRI : RdI W ac C) (hBg : Beg W) (hEr : ∃ a, W.cell? ⟨0, 0, none⟩ = some (.iface 120 (.pointer (some a)))) :
    Calls Tryd.prog 8 #[.slice a D.length cap, .slice ac C.length capc] W fun e w' => e = .returned (.bool true) ∧ Below W.heap.size W w' := by
  have e1 := ev_nil' W
  obtain ⟨q, hq⟩ : ∃ q, W.heap.size = q := ⟨_, rfl⟩
  have HSR : Hid (∀ bx, Src q W bx (.slice a D.length cap) D) := by
    have : ∀ bx, Src q W bx (.slice a D.length cap) D := fun bx => by rw [← hq]; exact hR.src bx
    exact this
  have HBE : Hid (Beg W ∧ 2 ≤ q ∧ ∃ a, W.cell? ⟨0, 0, none⟩ = some (.iface 120 (.pointer (some a)))) := ⟨hBg, by rw [← hq]; exact hBg.2, hEr⟩
  rw [hq] at e1
  rw [hq]
  have HCL : Hid (∀ i, i < C.length → ∃ b o, ac = some ⟨b, o, none⟩ ∧ ∀ Y, Below q W Y → Y.cell? ⟨b, o + i, none⟩ = some (.int .i64 (C.getD i 0))) := by
    have : ∀ i, i < C.length → ∃ b o, ac = some ⟨b, o, none⟩ ∧ ∀ Y, Below q W Y → Y.cell? ⟨b, o + i, none⟩ = some (.int .i64 (C.getD i 0)) := fun i hi => by
      obtain ⟨b, o, h1, h2⟩ := hRI.at i hi
      refine ⟨b, o, h1, fun Y hY => ?_⟩
      rw [World.cell?_of_block (a := ⟨b, o + i, none⟩) (hY.block b (by rw [← hq]; exact World.block_lt_of_cell? W _ h2))]
      exact h2
    exact this
  have hlc : D.length ≤ cap := by
    obtain ⟨a', c', e, h, _⟩ := hR
    injection e with _ _ e3
    rw [e3]; exact h
  obtain ⟨n, hn⟩ : ∃ n, D.length = n := ⟨_, rfl⟩
  have E1 : Hid (Ev q W (.pointer none) [] [] W) := e1
  have HK : Hid (True ∧ Byt D ∧ D.length = n ∧ n ≤ cap) := ⟨trivial, hDb, hn, by rw [← hn]; exact hlc⟩
  rw [hn] at HSR ⊢
  have HIT : Hid ((Tryd.prog.info? 54).map (·.size) = some (VI .u8 (dig 32 [] D)).size) := by
    have : (Tryd.prog.info? 54).map (·.size) = some (VI .u8 (dig 32 [] D)).size := by rw [VI_size, dig_len]; exact infoK
    exact this
  have HDL : Hid ((dig 32 [] D).length ≤ 1000000) := by
    have : (dig 32 [] D).length ≤ 1000000 := by rw [dig_len]; decide
    exact this
  have HCB : Hid (∀ x ∈ C, -9223372036854775808 ≤ x ∧ x < 9223372036854775808) := hC
  clear e1 hDb hn hR hRI hC hlc hBg hEr
  by_cases hbig : n ≤ 131072
  · have b0 : ¬ (131072 : Int) < (n : Int) := by omega
    have b0' : ¬ 131072 < n := by omega
    have HB : Hid (n ≤ 131072) := hbig
    have h1 := E1.out.new (.cells #[.slice a n cap] 22)
    rw [hq] at h1
    obtain ⟨W1, hW1⟩ : ∃ V, W.alloc (.cells #[.slice a n cap] 22) = V := ⟨_, rfl⟩
    rw [hW1] at h1
    have CO : Hid (Calls Tryd.prog 26 #[.pointer none, .slice (some ⟨q, 0, none⟩) 1 1] W1 fun e w' => e = .returned (.agg (VI .u8 (dig 32 [] D))) ∧ Ev q W (.pointer none) [] [] w') := by
      have := dof_any (Ds := [D]) (cap := 1) h1 ⟨⟨rfl, by show 1 ≤ maxLen; decide⟩, fun j hj => by
        have hj1 : j < 1 := hj
        obtain rfl : j = 0 := by omega
        exact ⟨_, 0, _, rfl, fun Z _ hq => by rw [cell_of_row Z _ _ _ _ _ (hq _ mem0)]; rfl, HSR.out _⟩⟩ (fun P hP => by rw [List.mem_singleton.1 hP]; exact HK.out.2.1) (fun h => absurd rfl h) (by simp [HK.out.2.2.1]; omega) HBE.out.1 HBE.out.2.1
      refine this.mono (fun e w' hh => ⟨by rw [hh.1]; simp, (Ev.sub (by' := []) hh.2 (fun p hp => nomatch hp)).nilOf []⟩)
    clear h1 hbig
    go_enter Tryd.func8, Tryd.ntmps8
    go_upto_region 4 with (first | (go_at_call 26; refine Calls.mono CO.out ?_; rintro e W2 ⟨rfl, h2⟩; have H2 : Hid _ := h2; clear h2) | (with_reducible refine at_list ?_; first | (refine hold_store 54 (.tmp 5) (.tmp 20) rfl ?_)))
    refine store_row_new rfl 54 (.tmp 5) (.tmp 20) rfl W2.heap.size (VI .u8 (dig 32 [] D)) rfl rfl rfl 54 (VI .u8 (List.replicate 32 0)) HIT.out (by rw [VI_size, VI_size, dig_len]; rfl) (VI_one _ _) ?_
    have h3 := H2.out.new (k32 D)
    obtain ⟨p7, hp7⟩ : ∃ p, W2.heap.size = p := ⟨_, rfl⟩
    obtain ⟨W3, hW3⟩ : ∃ V, W2.alloc (k32 D) = V := ⟨_, rfl⟩
    rw [hW3, hp7] at h3
    rw [show W2.alloc (.cells (VI .u8 (dig 32 [] D)) 54) = W3 from hW3, hp7]
    have H3 : Hid (Ev q W (.pointer none) [] [(p7, k32 D)] W3) := h3
    have CN : Hid (Calls Tryd.prog 11 #[.pointer none, .int .i64 32, .slice none 0 0] W3 fun e w' => ∃ g, e = .returned (.tuple #[.pointer (some ⟨g, 0, none⟩), .nilIface]) ∧ p7 ≠ g ∧ CS q W g p7 D 0 [] (.slice none 0 0) [] w') := (dnew_any h3 (fun h => absurd rfl h) 32 (by decide) HBE.out.1 HBE.out.2.1 _ [] (src_nil _ _ _) (by simp) (fun x hx => nomatch hx)).mono (fun e w' hh => by
      obtain ⟨g, rfl, o, hne, hst, he⟩ := hh
      obtain ⟨b, k1, rfl⟩ := hst.blk
      exact ⟨g, rfl, hne _ mem0, b, [], [], k1, lst_nil _ _, (fun j hj => nomatch hj), he.nilOf [], (fun p hp => nomatch hp), fun r hr => by rw [List.mem_singleton.1 hr]; exact hne _ mem0⟩)
    clear h3 hW3 hp7 H2 CO hW1 hq E1
    go_upto_region 7 with (first | (go_at_call 11; refine Calls.mono CN.out ?_; rintro e W4 ⟨g, rfl, hg, h4⟩; have HG : Hid (p7 ≠ g) := hg; have H4 : Hid (CS q W g p7 D 0 [] (.slice none 0 0) [] W4) := h4; clear h4 hg))
    clear CN H3
    go_wp2_with fail
    go_loopw [8, 9, 10] (fun vl va vi w' => ∃ (i x : Nat) (Ps : List (List Int)), i ≤ 400 ∧ i ≤ C.length ∧ vi = .int .i64 (i : Int) ∧ x ≤ n ∧ va = .int .i64 (x : Int) ∧ Ps.length ≤ i ∧ BytL Ps ∧ Ps.flatten = D.take x ∧ CS q W g p7 D x Ps vl [] w') (fun _ _ vi _ => 400 - (intOf vi).toNat)
    case atStart => exact ⟨0, 0, [], Nat.zero_le _, Nat.zero_le _, rfl, Nat.zero_le _, rfl, Nat.le_refl _, (fun D hD => nomatch hD), by simp, H4.out⟩
    case round =>
      clear H4
      obtain ⟨i, x, Ps, hi4, hic, rfl, hx, rfl, hpi, hpb, hpf, hcs⟩ := hrel
      have HP : Hid (Ps.length ≤ i ∧ BytL Ps ∧ Ps.flatten = D.take x ∧ x ≤ n ∧ i ≤ 400) := ⟨hpi, hpb, hpf, hx, hi4⟩
      have HCS : Hid (CS q W g p7 D x Ps u8 [] wr) := hcs
      clear hpi hpb hpf hcs
      by_cases hgo : i < C.length ∧ i < 400
      · obtain ⟨hlt, hlt4⟩ := hgo
        have b1 : (i : Int) < (C.length : Int) := by omega
        have b2 : (i : Int) < 400 := by omega
        obtain ⟨b, o, rfl, hcc⟩ := HCL.out i hlt
        have hcb : -9223372036854775808 ≤ C.getD i 0 ∧ C.getD i 0 < 9223372036854775808 := by
          rw [List.getD_eq_getElem?_getD, List.getElem?_eq_getElem hlt]
          exact HCB.out _ (List.getElem_mem _)
        obtain ⟨c, hc⟩ : ∃ c, C.getD i 0 = c := ⟨_, rfl⟩
        rw [hc] at hcc hcb
        have HCC : Hid (∀ Y, Below q W Y → Y.cell? ⟨b, o + i, none⟩ = some (.int .i64 c)) := hcc
        have c1 := hcc wr HCS.out.old
        have HW1 : Hid (wrap64 ((n : Int) - (x : Int)) = ((n - x : Nat) : Int) ∧ IntKind.i64.wrap ((n : Int) - (x : Int)) = ((n - x : Nat) : Int)) := ⟨wrapD hx HB.out, wrapD' hx HB.out⟩
        have HI1 : Hid (i < C.length ∧ i < 400) := ⟨hlt, hlt4⟩
        clear hcc hc
        by_cases hneg : c < 0
        · obtain ⟨hw1, hw1'⟩ := HW1.out
          go_wp2
          go_roundw
          case rel => exact ⟨i + 1, x, Ps, HI1.out.2, HI1.out.1, by go_num, HP.out.2.2.2.1, rfl, by have := HP.out.1; omega, HP.out.2.1, HP.out.2.2.1, HCS.out⟩
          case measure => have := HI1.out.2; simp [intOf]; omega
        · obtain ⟨m, rfl⟩ : ∃ m : Nat, c = (m : Int) := ⟨c.toNat, by omega⟩
          have b3 : ¬ (m : Int) < 0 := by omega
          by_cases hgt : n - x < m
          · have b4 : ((n - x : Nat) : Int) < (m : Int) := by omega
            obtain ⟨hw1, hw1'⟩ := HW1.out
            go_wp2
            go_roundw
            case rel => exact ⟨i + 1, x, Ps, HI1.out.2, HI1.out.1, by go_num, HP.out.2.2.2.1, rfl, by have := HP.out.1; omega, HP.out.2.1, HP.out.2.2.1, HCS.out⟩
            case measure => have := HI1.out.2; simp [intOf]; omega
          · have b4 : ¬ ((n - x : Nat) : Int) < (m : Int) := by omega
            have b4' : ¬ n - x < m := hgt
            have hxm : x + m ≤ n := by omega
            obtain ⟨y, hy⟩ : ∃ y, x + m = y := ⟨_, rfl⟩
            have HW2 : Hid (wrap64 ((x : Int) + (m : Int)) = (y : Int) ∧ IntKind.i64.wrap ((x : Int) + (m : Int)) = (y : Int)) := by
              have : wrap64 ((x : Int) + (m : Int)) = (y : Int) ∧ IntKind.i64.wrap ((x : Int) + (m : Int)) = (y : Int) := by
                rw [← hy]
                exact ⟨wrapM hxm HB.out, wrapM' hxm HB.out⟩
              exact this
            have hmid := fun w => run_mid w a n cap x y (x : Int) (y : Int) rfl rfl (by omega) (by have := HK.out.2.2.2; omega)
            have hsm := (HSR.out []).mid x y (by omega) (by omega)
            have eym : y - x = m := by omega
            rw [eym] at hsm
            simp only [eym] at hmid
            obtain ⟨a3, ha3⟩ : ∃ a3, adv a cap x = a3 := ⟨_, rfl⟩
            obtain ⟨c3, hc3⟩ : ∃ c3, cap - x = c3 := ⟨_, rfl⟩
            simp only [ha3, hc3] at hmid hsm
            obtain ⟨P, hP⟩ : ∃ P, (D.drop x).take m = P := ⟨_, rfl⟩
            rw [hP] at hsm
            have etk : D.take x ++ P = D.take y := by rw [← hP, ← hy, ← List.take_add]
            have HM : Hid (Src q W [] (.slice a3 m c3) P ∧ D.take x ++ P = D.take y ∧ y ≤ n) := ⟨hsm, etk, by omega⟩
            have HAP : Hid (∀ ty, ∃ v' w', (Builtin.append_ #[51, 51] ty #[u8, .slice (some ⟨wr.heap.size, 0, none⟩) 1 1]).run Tryd.prog (wr.alloc (.cells #[.slice a3 m c3] 22)) = .ok v' w' ∧ CS q W g p7 D x (Ps ++ [P]) v' [] w') := fun ty => HCS.out.app hsm (by have := HP.out.1; omega) ty
            have HPB : Hid (Byt P) := by
              have : Byt P := fun z hz => HK.out.2.1 z (List.mem_of_mem_take (by rw [← etk]; exact List.mem_append_right _ hz : z ∈ D.take y))
              exact this
            have c1' := HCC.out _ ((HCS.out.below ((Below.refl wr.heap.size wr).alloc (Nat.le_refl _) (.cells #[.slice a3 m c3] 22))).old)
            clear hsm etk hP ha3 hc3 hgt hneg hxm hy eym
            obtain ⟨hw1, hw1'⟩ := HW1.out
            obtain ⟨hw2, hw2'⟩ := HW2.out
            go_wp2_with (first | (at_builtin; refine wpList_app _ rfl (.tmp 57) (.tmp 67) 51 51 rfl _ _ rfl rfl HAP.out ?_; intro v5 w5 h5; have c5 := HCC.out w5 h5.old; have CW : Hid (Calls Tryd.prog 23 #[.pointer (some ⟨g, 0, none⟩), .slice a3 m c3] w5 fun e w2 => e = .returned (.tuple #[]) ∧ CS q W g p7 D y (Ps ++ [P]) v5 [] w2) := h5.write HBE.out.1 HBE.out.2.1 HK.out.2.1 (by rw [HK.out.2.2.1]; exact HB.out) HM.out.1 HM.out.2.1; clear h5) | (go_at_call 23; refine Calls.mono CW.out ?_; rintro e w6 ⟨rfl, h6⟩; have c6 := HCC.out w6 h6.old; have CU : Hid _ := h6.sum HBE.out.1 HBE.out.2.1 (by rw [HK.out.2.2.1]; exact HB.out); clear h6) | (go_at_call 22; refine Calls.mono CU.out ?_; rintro e w7 ⟨gx, rfl, h7⟩; have c7 := HCC.out w7 h7.old; have H7 := (CS.drop (ey := []) h7 (fun p hp => nomatch hp)).hid; clear h7))
            go_roundw
            case rel => exact ⟨i + 1, y, Ps ++ [P], HI1.out.2, HI1.out.1, by go_num, HM.out.2.2, rfl, by have := HP.out.1; simp; omega, (fun E hE => by
              rcases List.mem_append.1 hE with hE | hE
              · exact HP.out.2.1 E hE
              · rw [List.mem_singleton.1 hE]; exact HPB.out), by rw [List.flatten_append, HP.out.2.2.1]; simpa using HM.out.2.1, H7.out⟩
            case measure => have := HI1.out.2; simp [intOf]; omega
      · have HNG : Hid (¬ (i < C.length ∧ i < 400)) := hgo
        by_cases hlt : i < C.length
        · have b1 : (i : Int) < (C.length : Int) := by omega
          have b2 : ¬ (i : Int) < 400 := by omega
          clear hgo HNG
          have hx' := HP.out.2.2.2.1
          have hfrom := fun w => run_from w a n cap x (x : Int) rfl hx' HK.out.2.2.2
          have hsr := (HSR.out []).from' x hx'
          obtain ⟨a3, ha3⟩ : ∃ a3, adv a cap x = a3 := ⟨_, rfl⟩
          obtain ⟨c3, hc3⟩ : ∃ c3, cap - x = c3 := ⟨_, rfl⟩
          obtain ⟨m, hm⟩ : ∃ m, n - x = m := ⟨_, rfl⟩
          simp only [ha3, hc3, hm] at hfrom hsr
          have etk : D.take x ++ D.drop x = D.take n := by rw [List.take_append_drop, List.take_of_length_le (by rw [HK.out.2.2.1]; exact Nat.le_refl _)]
          have HTK : Hid (D.take n = D) := by
            have : D.take n = D := List.take_of_length_le (by rw [HK.out.2.2.1]; exact Nat.le_refl _)
            exact this
          have HM : Hid (Src q W [] (.slice a3 m c3) (D.drop x) ∧ D.take x ++ D.drop x = D.take n) := ⟨hsr, etk⟩
          have HAP : Hid (∀ ty, ∃ v' w', (Builtin.append_ #[51, 51] ty #[u8, .slice (some ⟨wr.heap.size, 0, none⟩) 1 1]).run Tryd.prog (wr.alloc (.cells #[.slice a3 m c3] 22)) = .ok v' w' ∧ CS q W g p7 D x (Ps ++ [D.drop x]) v' [] w') := fun ty => HCS.out.app hsr (by have := HP.out.1; have := HP.out.2.2.2.2; omega) ty
          have HPS : Hid (BytL (Ps ++ [D.drop x]) ∧ (Ps ++ [D.drop x]).length ≤ 1000 ∧ (Ps ++ [D.drop x]).flatten.length ≤ 131072 ∧ (Ps ++ [D.drop x]).flatten = D) := by
            have hfl : (Ps ++ [D.drop x]).flatten = D := by rw [List.flatten_append, HP.out.2.2.1]; simp
            have : BytL (Ps ++ [D.drop x]) ∧ (Ps ++ [D.drop x]).length ≤ 1000 ∧ (Ps ++ [D.drop x]).flatten.length ≤ 131072 ∧ (Ps ++ [D.drop x]).flatten = D := ⟨(fun E hE => by
              rcases List.mem_append.1 hE with hE | hE
              · exact HP.out.2.1 E hE
              · rw [List.mem_singleton.1 hE]; exact fun z hz => HK.out.2.1 z (List.mem_of_mem_drop hz)), by have := HP.out.1; have := HP.out.2.2.2.2; simp; omega, by rw [hfl, HK.out.2.2.1]; exact HB.out, hfl⟩
            exact this
          clear hsr etk ha3 hc3 hm hx hx' hic hi4
          go_upto_region 20 with (first | (at_builtin; refine wpList_app _ rfl (.tmp 88) (.tmp 92) 51 51 rfl _ _ rfl rfl HAP.out ?_; intro v5 w5 h5; have CW : Hid (Calls Tryd.prog 23 #[.pointer (some ⟨g, 0, none⟩), .slice a3 m c3] w5 fun e w2 => e = .returned (.tuple #[]) ∧ CS q W g p7 D n (Ps ++ [D.drop x]) v5 [] w2) := h5.write HBE.out.1 HBE.out.2.1 HK.out.2.1 (by rw [HK.out.2.2.1]; exact HB.out) HM.out.1 HM.out.2; clear h5) | (go_at_call 23; refine Calls.mono CW.out ?_; rintro e w6 ⟨rfl, h6⟩; have CU : Hid _ := h6.sum HBE.out.1 HBE.out.2.1 (by rw [HK.out.2.2.1]; exact HB.out); clear h6) | (go_at_call 22; refine Calls.mono CU.out ?_; rintro e w7 ⟨g11, rfl, h7⟩; have H7 : Hid (CS q W g p7 D n (Ps ++ [D.drop x]) v5 [(g11, .cells (VI .u8 (dig 32 [] D)) 5)] w7) := (by rw [HTK.out] at h7; exact h7); clear h7))
          clear HAP CW CU HM HCS HP hfrom
          have EQ := fun w => neqT (dig_len 32 [] D) w
          refine wp_region_quiet_in (C := fun Y => CS q W g p7 D n (Ps ++ [D.drop x]) v5 [(g11, .cells (VI .u8 (dig 32 [] D)) 5)] Y) (by kernel_rfl) (by kernel_rfl) (CS.below (show CS q W g p7 D n (Ps ++ [D.drop x]) v5 [(g11, .cells (VI .u8 (dig 32 [] D)) 5)] w7 from H7.out) (below_drew _)) ?_
          refine wpQuiet_step (fun K hK => ?_)
          go_simp
          first | refine hK _ ?_ | refine ⟨_, fun _ _ => rfl, hK _ ?_⟩
          clear hK K
          try simp only [Act.put, List.getElem_toArray, List.getElem_cons_succ, List.getElem_cons_zero, List.getElem?_toArray, List.getElem?_cons_succ, List.getElem?_cons_zero, List.setIfInBounds_toArray, List.set_cons_zero, List.set_cons_succ]
          refine wpQuiet_step (fun K hK => ?_)
          refine if_pos_mpr (by kernel_rfl) ⟨.agg (VI .u8 (dig 32 [] D)), fun Y hY => ?_, hK _ ?_⟩
          · go_simp
            exact (hY.of HBE.out.1 HBE.out.2.1 HPS.out.1 HPS.out.2.1 HPS.out.2.2.1).mono (fun e w' hh => by rw [HPS.out.2.2.2] at hh; exact hh)
          clear hK K
          try simp only [Act.put, List.getElem_toArray, List.getElem_cons_succ, List.getElem_cons_zero, List.getElem?_toArray, List.getElem?_cons_succ, List.getElem?_cons_zero, List.setIfInBounds_toArray, List.set_cons_zero, List.set_cons_succ]
          refine wpQuiet_step (fun K hK => ?_)
          refine if_pos_mpr (by kernel_rfl) ⟨.agg (VI .u8 (dig 32 [] D)), fun Y hY => quietAt_load_row 54 (.tmp 5) rfl p7 rfl 54 (VI .u8 (dig 32 [] D)) (0, 0) _ (hY.ev.row mem0) Tryd.underlying54 rfl HIT.out, hK _ ?_⟩
          clear hK K
          try simp only [Act.put, List.getElem_toArray, List.getElem_cons_succ, List.getElem_cons_zero, List.getElem?_toArray, List.getElem?_cons_succ, List.getElem?_cons_zero, List.setIfInBounds_toArray, List.set_cons_zero, List.set_cons_succ]
          refine wpQuiet_step (fun K hK => ?_)
          go_simp
          first | refine hK _ ?_ | refine ⟨_, fun _ _ => rfl, hK _ ?_⟩
          clear hK K
          try simp only [Act.put, List.getElem_toArray, List.getElem_cons_succ, List.getElem_cons_zero, List.getElem?_toArray, List.getElem?_cons_succ, List.getElem?_cons_zero, List.setIfInBounds_toArray, List.set_cons_zero, List.set_cons_succ]
          refine wpQuiet_step (fun K hK => ?_)
          go_simp
          first | refine hK _ ?_ | refine ⟨_, fun _ _ => rfl, hK _ ?_⟩
          clear hK K
          try simp only [Act.put, List.getElem_toArray, List.getElem_cons_succ, List.getElem_cons_zero, List.getElem?_toArray, List.getElem?_cons_succ, List.getElem?_cons_zero, List.setIfInBounds_toArray, List.set_cons_zero, List.set_cons_succ]
          refine wpQuiet_step (fun K hK => ?_)
          go_simp
          first | refine hK _ ?_ | refine ⟨_, fun _ _ => rfl, hK _ ?_⟩
          clear hK K
          try simp only [Act.put, List.getElem_toArray, List.getElem_cons_succ, List.getElem_cons_zero, List.getElem?_toArray, List.getElem?_cons_succ, List.getElem?_cons_zero, List.setIfInBounds_toArray, List.set_cons_zero, List.set_cons_succ]
          refine wpQuiet_step (fun K hK => ?_)
          go_simp
          first | refine hK _ ?_ | refine ⟨_, fun _ _ => rfl, hK _ ?_⟩
          clear hK K
          try simp only [Act.put, List.getElem_toArray, List.getElem_cons_succ, List.getElem_cons_zero, List.getElem?_toArray, List.getElem?_cons_succ, List.getElem?_cons_zero, List.setIfInBounds_toArray, List.set_cons_zero, List.set_cons_succ]
          refine wpQuiet_step (fun K hK => ?_)
          refine if_pos_mpr (by kernel_rfl) ⟨.bool true, fun Y hY => ?_, hK _ ?_⟩
          · go_simp
            exact (same_any _ _ (dig 32 [] D) HDL.out Y (row_rd (hY.ev.row mem1) (dig_len _ _ _) (Nat.le_refl _)) (row_rd (hY.ev.row mem0) (dig_len _ _ _) (Nat.le_refl _))).mono (fun e w' hh => ⟨hh.1, hY.below hh.2⟩)
          clear hK K
          try simp only [Act.put, List.getElem_toArray, List.getElem_cons_succ, List.getElem_cons_zero, List.getElem?_toArray, List.getElem?_cons_succ, List.getElem?_cons_zero, List.setIfInBounds_toArray, List.set_cons_zero, List.set_cons_succ]
          refine wpQuiet_step (fun K hK => ?_)
          go_simp
          first | refine hK _ ?_ | refine ⟨_, fun _ _ => rfl, hK _ ?_⟩
          clear hK K
          try simp only [Act.put, List.getElem_toArray, List.getElem_cons_succ, List.getElem_cons_zero, List.getElem?_toArray, List.getElem?_cons_succ, List.getElem?_cons_zero, List.setIfInBounds_toArray, List.set_cons_zero, List.set_cons_succ]
          refine wpQuiet_step (fun K hK => ?_)
          go_simp
          first | refine hK _ ?_ | refine ⟨_, fun _ _ => rfl, hK _ ?_⟩
          clear hK K
          try simp only [Act.put, List.getElem_toArray, List.getElem_cons_succ, List.getElem_cons_zero, List.getElem?_toArray, List.getElem?_cons_succ, List.getElem?_cons_zero, List.setIfInBounds_toArray, List.set_cons_zero, List.set_cons_succ]
          intro w8 h8
          have H8 : Hid (Ev q W (.pointer none) [] [(p7, k32 D)] w8) := h8.ev.sub (fun p hp => by rw [List.mem_singleton.1 hp]; exact mem0)
          clear h8 H7
          by_cases h300 : 300 < n
          · have b5 : (300 : Int) < (n : Int) := by omega
            have CK : Hid (Calls Tryd.prog 18 #[] w8 fun e w' => e = .returned (.bool true) ∧ Below q W w') := known_at H8.out.old HBE.out.1 HBE.out.2.1 HBE.out.2.2 H8.out.le
            go_wp2_with (first | (go_at_call 18; refine Calls.mono CK.out ?_; rintro e w9 ⟨rfl, h9⟩; have H9 : Hid _ := h9; clear h9))
            go_ret
            exact ⟨rfl, H9.out⟩
          · have b5 : ¬ (300 : Int) < (n : Int) := by omega
            have H300 : Hid (n ≤ 300) := by show n ≤ 300; omega
            have CN : Hid (Calls Tryd.prog 11 #[.pointer none, .int .i64 32, .slice none 0 0] w8 fun e w' => ∃ g2, e = .returned (.tuple #[.pointer (some ⟨g2, 0, none⟩), .nilIface]) ∧ p7 ≠ g2 ∧ B8 q W g2 p7 D 0 w') := (dnew_any H8.out (fun h => absurd rfl h) 32 (by decide) HBE.out.1 HBE.out.2.1 _ [] (src_nil _ _ _) (by simp) (fun x hx => nomatch hx)).mono (fun e w' hh => by
              obtain ⟨g2, rfl, o, hne, hst, he⟩ := hh
              obtain ⟨b, k1, rfl⟩ := hst.blk
              exact ⟨g2, rfl, hne _ mem0, b, k1, he.nilOf []⟩)
            go_upto_region 26 with (first | (go_at_call 11; refine Calls.mono CN.out ?_; rintro e w9 ⟨g2, rfl, hg2, h9⟩; have H9 : Hid (B8 q W g2 p7 D 0 w9) := h9; have HG2 : Hid (p7 ≠ g2) := hg2; clear h9 hg2))
            clear CN H8 HPS
            go_loopw [14] (fun v w' => ∃ i : Nat, i ≤ n ∧ v = .int .i64 (i : Int) ∧ B8 q W g2 p7 D i w') (fun v _ => n - (intOf v).toNat)
            case atStart => exact ⟨0, Nat.zero_le _, rfl, H9.out⟩
            case round =>
              clear H9
              obtain ⟨j, hj, rfl, he⟩ := hrel
              by_cases hlt2 : j < n
              · have b6 : (j : Int) < (n : Int) := by omega
                have hmid := fun w => run_mid w a n cap j (j + 1) (j : Int) ((j + 1 : Nat) : Int) rfl rfl (by omega) (by have := HK.out.2.2.2; omega)
                have hsm := (HSR.out [(p7, k32 D)]).mid j (j + 1) (by omega) (by omega)
                have e1 : j + 1 - j = 1 := by omega
                simp only [e1] at hmid hsm
                have hw : ((j + 1 : Nat) : Int) = (j : Int) + 1 := by omega
                simp only [hw] at hmid
                obtain ⟨a4, ha4⟩ : ∃ a4, adv a cap j = a4 := ⟨_, rfl⟩
                obtain ⟨c4, hc4⟩ : ∃ c4, cap - j = c4 := ⟨_, rfl⟩
                simp only [ha4, hc4] at hmid hsm
                have HJ : Hid (j < n ∧ n ≤ 300) := ⟨hlt2, H300.out⟩
                have CW2 : Hid (Calls Tryd.prog 23 #[.pointer (some ⟨g2, 0, none⟩), .slice a4 1 c4] wr fun e w' => e = .returned (.tuple #[]) ∧ B8 q W g2 p7 D (j + 1) w') := he.write HBE.out.1 HBE.out.2.1 HG2.out HK.out.2.1 (by rw [HK.out.2.2.1]; exact HB.out) hsm
                clear he hsm ha4 hc4 e1 hw hj
                go_wp2_with (first | (go_at_call 23; refine Calls.mono CW2.out ?_; rintro e w9 ⟨rfl, h9⟩; have H9 : Hid (B8 q W g2 p7 D (j + 1) w9) := h9; clear h9))
                go_roundw
                case rel => exact ⟨j + 1, HJ.out.1, by go_num, H9.out⟩
                case measure => have := HJ.out.1; simp only [intOf]; omega
              · have b6 : ¬ (j : Int) < (n : Int) := by omega
                have ej : j = n := by omega
                have H9 : Hid (B8 q W g2 p7 D n wr) := ej ▸ he
                clear he hj ej hlt2
                go_upto_region 29 with fail
                refine wp_as (c' := rgCu29) (by kernel_rfl) ?_
                refine Cu29 (g := g2) (p7 := p7) (R0 := B8 q W g2 p7 D n) (R1 := fun u Y => B8 q W g2 p7 D n Y ∧ RdB Y u (dig 32 [] D)) (R2 := fun _ Y => B8 q W g2 p7 D n Y) (R3 := fun _ Y => Below q W Y) rfl rfl rfl H9.out.drew ?_ ?_ ?_ (fun _ _ d _ _ h => by cases d <;> exact h) ?_
                · intro Y hY
                  exact (hY.sum HBE.out.1 HBE.out.2.1 HG2.out (by rw [HK.out.2.2.1]; exact HB.out)).mono (fun e w' hh => by rw [HTK.out] at hh; exact hh)
                · intro u Y hY
                  exact (same_any _ _ (dig 32 [] D) HDL.out Y hY.2 (row_rd hY.1.row (dig_len _ _ _) (Nat.le_refl _))).mono (fun e w' hh => ⟨hh.1, hY.1.below hh.2⟩)
                · intro u Y hY
                  exact known_at hY.old HBE.out.1 HBE.out.2.1 HBE.out.2.2 hY.le
                intro u Y hY
                have HF : Hid (Below q W Y) := hY
                clear hY H9
                go_wp2
                go_ret
                exact ⟨rfl, HF.out⟩
          
        · have b1 : ¬ (i : Int) < (C.length : Int) := by omega
          clear hgo HNG
          have hx' := HP.out.2.2.2.1
          have hfrom := fun w => run_from w a n cap x (x : Int) rfl hx' HK.out.2.2.2
          have hsr := (HSR.out []).from' x hx'
          obtain ⟨a3, ha3⟩ : ∃ a3, adv a cap x = a3 := ⟨_, rfl⟩
          obtain ⟨c3, hc3⟩ : ∃ c3, cap - x = c3 := ⟨_, rfl⟩
          obtain ⟨m, hm⟩ : ∃ m, n - x = m := ⟨_, rfl⟩
          simp only [ha3, hc3, hm] at hfrom hsr
          have etk : D.take x ++ D.drop x = D.take n := by rw [List.take_append_drop, List.take_of_length_le (by rw [HK.out.2.2.1]; exact Nat.le_refl _)]
          have HTK : Hid (D.take n = D) := by
            have : D.take n = D := List.take_of_length_le (by rw [HK.out.2.2.1]; exact Nat.le_refl _)
            exact this
          have HM : Hid (Src q W [] (.slice a3 m c3) (D.drop x) ∧ D.take x ++ D.drop x = D.take n) := ⟨hsr, etk⟩
          have HAP : Hid (∀ ty, ∃ v' w', (Builtin.append_ #[51, 51] ty #[u8, .slice (some ⟨wr.heap.size, 0, none⟩) 1 1]).run Tryd.prog (wr.alloc (.cells #[.slice a3 m c3] 22)) = .ok v' w' ∧ CS q W g p7 D x (Ps ++ [D.drop x]) v' [] w') := fun ty => HCS.out.app hsr (by have := HP.out.1; have := HP.out.2.2.2.2; omega) ty
          have HPS : Hid (BytL (Ps ++ [D.drop x]) ∧ (Ps ++ [D.drop x]).length ≤ 1000 ∧ (Ps ++ [D.drop x]).flatten.length ≤ 131072 ∧ (Ps ++ [D.drop x]).flatten = D) := by
            have hfl : (Ps ++ [D.drop x]).flatten = D := by rw [List.flatten_append, HP.out.2.2.1]; simp
            have : BytL (Ps ++ [D.drop x]) ∧ (Ps ++ [D.drop x]).length ≤ 1000 ∧ (Ps ++ [D.drop x]).flatten.length ≤ 131072 ∧ (Ps ++ [D.drop x]).flatten = D := ⟨(fun E hE => by
              rcases List.mem_append.1 hE with hE | hE
              · exact HP.out.2.1 E hE
              · rw [List.mem_singleton.1 hE]; exact fun z hz => HK.out.2.1 z (List.mem_of_mem_drop hz)), by have := HP.out.1; have := HP.out.2.2.2.2; simp; omega, by rw [hfl, HK.out.2.2.1]; exact HB.out, hfl⟩
            exact this
          clear hsr etk ha3 hc3 hm hx hx' hic hi4
          go_upto_region 20 with (first | (at_builtin; refine wpList_app _ rfl (.tmp 88) (.tmp 92) 51 51 rfl _ _ rfl rfl HAP.out ?_; intro v5 w5 h5; have CW : Hid (Calls Tryd.prog 23 #[.pointer (some ⟨g, 0, none⟩), .slice a3 m c3] w5 fun e w2 => e = .returned (.tuple #[]) ∧ CS q W g p7 D n (Ps ++ [D.drop x]) v5 [] w2) := h5.write HBE.out.1 HBE.out.2.1 HK.out.2.1 (by rw [HK.out.2.2.1]; exact HB.out) HM.out.1 HM.out.2; clear h5) | (go_at_call 23; refine Calls.mono CW.out ?_; rintro e w6 ⟨rfl, h6⟩; have CU : Hid _ := h6.sum HBE.out.1 HBE.out.2.1 (by rw [HK.out.2.2.1]; exact HB.out); clear h6) | (go_at_call 22; refine Calls.mono CU.out ?_; rintro e w7 ⟨g11, rfl, h7⟩; have H7 : Hid (CS q W g p7 D n (Ps ++ [D.drop x]) v5 [(g11, .cells (VI .u8 (dig 32 [] D)) 5)] w7) := (by rw [HTK.out] at h7; exact h7); clear h7))
          clear HAP CW CU HM HCS HP hfrom
          have EQ := fun w => neqT (dig_len 32 [] D) w
          refine wp_region_quiet_in (C := fun Y => CS q W g p7 D n (Ps ++ [D.drop x]) v5 [(g11, .cells (VI .u8 (dig 32 [] D)) 5)] Y) (by kernel_rfl) (by kernel_rfl) (CS.below (show CS q W g p7 D n (Ps ++ [D.drop x]) v5 [(g11, .cells (VI .u8 (dig 32 [] D)) 5)] w7 from H7.out) (below_drew _)) ?_
          refine wpQuiet_step (fun K hK => ?_)
          go_simp
          first | refine hK _ ?_ | refine ⟨_, fun _ _ => rfl, hK _ ?_⟩
          clear hK K
          try simp only [Act.put, List.getElem_toArray, List.getElem_cons_succ, List.getElem_cons_zero, List.getElem?_toArray, List.getElem?_cons_succ, List.getElem?_cons_zero, List.setIfInBounds_toArray, List.set_cons_zero, List.set_cons_succ]
          refine wpQuiet_step (fun K hK => ?_)
          refine if_pos_mpr (by kernel_rfl) ⟨.agg (VI .u8 (dig 32 [] D)), fun Y hY => ?_, hK _ ?_⟩
          · go_simp
            exact (hY.of HBE.out.1 HBE.out.2.1 HPS.out.1 HPS.out.2.1 HPS.out.2.2.1).mono (fun e w' hh => by rw [HPS.out.2.2.2] at hh; exact hh)
          clear hK K
          try simp only [Act.put, List.getElem_toArray, List.getElem_cons_succ, List.getElem_cons_zero, List.getElem?_toArray, List.getElem?_cons_succ, List.getElem?_cons_zero, List.setIfInBounds_toArray, List.set_cons_zero, List.set_cons_succ]
          refine wpQuiet_step (fun K hK => ?_)
          refine if_pos_mpr (by kernel_rfl) ⟨.agg (VI .u8 (dig 32 [] D)), fun Y hY => quietAt_load_row 54 (.tmp 5) rfl p7 rfl 54 (VI .u8 (dig 32 [] D)) (0, 0) _ (hY.ev.row mem0) Tryd.underlying54 rfl HIT.out, hK _ ?_⟩
          clear hK K
          try simp only [Act.put, List.getElem_toArray, List.getElem_cons_succ, List.getElem_cons_zero, List.getElem?_toArray, List.getElem?_cons_succ, List.getElem?_cons_zero, List.setIfInBounds_toArray, List.set_cons_zero, List.set_cons_succ]
          refine wpQuiet_step (fun K hK => ?_)
          go_simp
          first | refine hK _ ?_ | refine ⟨_, fun _ _ => rfl, hK _ ?_⟩
          clear hK K
          try simp only [Act.put, List.getElem_toArray, List.getElem_cons_succ, List.getElem_cons_zero, List.getElem?_toArray, List.getElem?_cons_succ, List.getElem?_cons_zero, List.setIfInBounds_toArray, List.set_cons_zero, List.set_cons_succ]
          refine wpQuiet_step (fun K hK => ?_)
          go_simp
          first | refine hK _ ?_ | refine ⟨_, fun _ _ => rfl, hK _ ?_⟩
          clear hK K
          try simp only [Act.put, List.getElem_toArray, List.getElem_cons_succ, List.getElem_cons_zero, List.getElem?_toArray, List.getElem?_cons_succ, List.getElem?_cons_zero, List.setIfInBounds_toArray, List.set_cons_zero, List.set_cons_succ]
          refine wpQuiet_step (fun K hK => ?_)
          go_simp
          first | refine hK _ ?_ | refine ⟨_, fun _ _ => rfl, hK _ ?_⟩
          clear hK K
          try simp only [Act.put, List.getElem_toArray, List.getElem_cons_succ, List.getElem_cons_zero, List.getElem?_toArray, List.getElem?_cons_succ, List.getElem?_cons_zero, List.setIfInBounds_toArray, List.set_cons_zero, List.set_cons_succ]
          refine wpQuiet_step (fun K hK => ?_)
          go_simp
          first | refine hK _ ?_ | refine ⟨_, fun _ _ => rfl, hK _ ?_⟩
          clear hK K
          try simp only [Act.put, List.getElem_toArray, List.getElem_cons_succ, List.getElem_cons_zero, List.getElem?_toArray, List.getElem?_cons_succ, List.getElem?_cons_zero, List.setIfInBounds_toArray, List.set_cons_zero, List.set_cons_succ]
          refine wpQuiet_step (fun K hK => ?_)
          refine if_pos_mpr (by kernel_rfl) ⟨.bool true, fun Y hY => ?_, hK _ ?_⟩
          · go_simp
            exact (same_any _ _ (dig 32 [] D) HDL.out Y (row_rd (hY.ev.row mem1) (dig_len _ _ _) (Nat.le_refl _)) (row_rd (hY.ev.row mem0) (dig_len _ _ _) (Nat.le_refl _))).mono (fun e w' hh => ⟨hh.1, hY.below hh.2⟩)
          clear hK K
          try simp only [Act.put, List.getElem_toArray, List.getElem_cons_succ, List.getElem_cons_zero, List.getElem?_toArray, List.getElem?_cons_succ, List.getElem?_cons_zero, List.setIfInBounds_toArray, List.set_cons_zero, List.set_cons_succ]
          refine wpQuiet_step (fun K hK => ?_)
          go_simp
          first | refine hK _ ?_ | refine ⟨_, fun _ _ => rfl, hK _ ?_⟩
          clear hK K
          try simp only [Act.put, List.getElem_toArray, List.getElem_cons_succ, List.getElem_cons_zero, List.getElem?_toArray, List.getElem?_cons_succ, List.getElem?_cons_zero, List.setIfInBounds_toArray, List.set_cons_zero, List.set_cons_succ]
          refine wpQuiet_step (fun K hK => ?_)
          go_simp
          first | refine hK _ ?_ | refine ⟨_, fun _ _ => rfl, hK _ ?_⟩
          clear hK K
          try simp only [Act.put, List.getElem_toArray, List.getElem_cons_succ, List.getElem_cons_zero, List.getElem?_toArray, List.getElem?_cons_succ, List.getElem?_cons_zero, List.setIfInBounds_toArray, List.set_cons_zero, List.set_cons_succ]
          intro w8 h8
          have H8 : Hid (Ev q W (.pointer none) [] [(p7, k32 D)] w8) := h8.ev.sub (fun p hp => by rw [List.mem_singleton.1 hp]; exact mem0)
          clear h8 H7
          by_cases h300 : 300 < n
          · have b5 : (300 : Int) < (n : Int) := by omega
            have CK : Hid (Calls Tryd.prog 18 #[] w8 fun e w' => e = .returned (.bool true) ∧ Below q W w') := known_at H8.out.old HBE.out.1 HBE.out.2.1 HBE.out.2.2 H8.out.le
            go_wp2_with (first | (go_at_call 18; refine Calls.mono CK.out ?_; rintro e w9 ⟨rfl, h9⟩; have H9 : Hid _ := h9; clear h9))
            go_ret
            exact ⟨rfl, H9.out⟩
          · have b5 : ¬ (300 : Int) < (n : Int) := by omega
            have H300 : Hid (n ≤ 300) := by show n ≤ 300; omega
            have CN : Hid (Calls Tryd.prog 11 #[.pointer none, .int .i64 32, .slice none 0 0] w8 fun e w' => ∃ g2, e = .returned (.tuple #[.pointer (some ⟨g2, 0, none⟩), .nilIface]) ∧ p7 ≠ g2 ∧ B8 q W g2 p7 D 0 w') := (dnew_any H8.out (fun h => absurd rfl h) 32 (by decide) HBE.out.1 HBE.out.2.1 _ [] (src_nil _ _ _) (by simp) (fun x hx => nomatch hx)).mono (fun e w' hh => by
              obtain ⟨g2, rfl, o, hne, hst, he⟩ := hh
              obtain ⟨b, k1, rfl⟩ := hst.blk
              exact ⟨g2, rfl, hne _ mem0, b, k1, he.nilOf []⟩)
            go_upto_region 26 with (first | (go_at_call 11; refine Calls.mono CN.out ?_; rintro e w9 ⟨g2, rfl, hg2, h9⟩; have H9 : Hid (B8 q W g2 p7 D 0 w9) := h9; have HG2 : Hid (p7 ≠ g2) := hg2; clear h9 hg2))
            clear CN H8 HPS
            go_loopw [14] (fun v w' => ∃ i : Nat, i ≤ n ∧ v = .int .i64 (i : Int) ∧ B8 q W g2 p7 D i w') (fun v _ => n - (intOf v).toNat)
            case atStart => exact ⟨0, Nat.zero_le _, rfl, H9.out⟩
            case round =>
              clear H9
              obtain ⟨j, hj, rfl, he⟩ := hrel
              by_cases hlt2 : j < n
              · have b6 : (j : Int) < (n : Int) := by omega
                have hmid := fun w => run_mid w a n cap j (j + 1) (j : Int) ((j + 1 : Nat) : Int) rfl rfl (by omega) (by have := HK.out.2.2.2; omega)
                have hsm := (HSR.out [(p7, k32 D)]).mid j (j + 1) (by omega) (by omega)
                have e1 : j + 1 - j = 1 := by omega
                simp only [e1] at hmid hsm
                have hw : ((j + 1 : Nat) : Int) = (j : Int) + 1 := by omega
                simp only [hw] at hmid
                obtain ⟨a4, ha4⟩ : ∃ a4, adv a cap j = a4 := ⟨_, rfl⟩
                obtain ⟨c4, hc4⟩ : ∃ c4, cap - j = c4 := ⟨_, rfl⟩
                simp only [ha4, hc4] at hmid hsm
                have HJ : Hid (j < n ∧ n ≤ 300) := ⟨hlt2, H300.out⟩
                have CW2 : Hid (Calls Tryd.prog 23 #[.pointer (some ⟨g2, 0, none⟩), .slice a4 1 c4] wr fun e w' => e = .returned (.tuple #[]) ∧ B8 q W g2 p7 D (j + 1) w') := he.write HBE.out.1 HBE.out.2.1 HG2.out HK.out.2.1 (by rw [HK.out.2.2.1]; exact HB.out) hsm
                clear he hsm ha4 hc4 e1 hw hj
                go_wp2_with (first | (go_at_call 23; refine Calls.mono CW2.out ?_; rintro e w9 ⟨rfl, h9⟩; have H9 : Hid (B8 q W g2 p7 D (j + 1) w9) := h9; clear h9))
                go_roundw
                case rel => exact ⟨j + 1, HJ.out.1, by go_num, H9.out⟩
                case measure => have := HJ.out.1; simp only [intOf]; omega
              · have b6 : ¬ (j : Int) < (n : Int) := by omega
                have ej : j = n := by omega
                have H9 : Hid (B8 q W g2 p7 D n wr) := ej ▸ he
                clear he hj ej hlt2
                go_upto_region 29 with fail
                refine wp_as (c' := rgCu29) (by kernel_rfl) ?_
                refine Cu29 (g := g2) (p7 := p7) (R0 := B8 q W g2 p7 D n) (R1 := fun u Y => B8 q W g2 p7 D n Y ∧ RdB Y u (dig 32 [] D)) (R2 := fun _ Y => B8 q W g2 p7 D n Y) (R3 := fun _ Y => Below q W Y) rfl rfl rfl H9.out.drew ?_ ?_ ?_ (fun _ _ d _ _ h => by cases d <;> exact h) ?_
                · intro Y hY
                  exact (hY.sum HBE.out.1 HBE.out.2.1 HG2.out (by rw [HK.out.2.2.1]; exact HB.out)).mono (fun e w' hh => by rw [HTK.out] at hh; exact hh)
                · intro u Y hY
                  exact (same_any _ _ (dig 32 [] D) HDL.out Y hY.2 (row_rd hY.1.row (dig_len _ _ _) (Nat.le_refl _))).mono (fun e w' hh => ⟨hh.1, hY.1.below hh.2⟩)
                · intro u Y hY
                  exact known_at hY.old HBE.out.1 HBE.out.2.1 HBE.out.2.2 hY.le
                intro u Y hY
                have HF : Hid (Below q W Y) := hY
                clear hY H9
                go_wp2
                go_ret
                exact ⟨rfl, HF.out⟩
          
  · have b0 : (131072 : Int) < (n : Int) := by omega
    have b0' : 131072 < n := by omega
    have HF : Hid (Below q W W) := E1.out.old
    go_enter Tryd.func8, Tryd.ntmps8
    go_wp2
    go_ret
    exact ⟨rfl, HF.out⟩
end Go.Proofs.YtfkbgodfcnmepaaDoor
