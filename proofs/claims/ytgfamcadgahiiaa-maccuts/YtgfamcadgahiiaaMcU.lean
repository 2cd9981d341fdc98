import Derived.Test.YtgfamcadgahiiaaMcA
import Derived.Test.YtgfamcadgahiiaaPrmH
namespace Go.Proofs.Ytgfamcadgahiiaa
set_option linter.unusedSimpArgs false
set_option linter.unusedVariables false
open Go.ChangeShapes Go.WideShapes Go.ChangeAt Go.RowKit Go.Pin Go.Prm
theorem below_drew (w : World) : Below w.heap.size w w.drew := ⟨rfl, rfl, rfl, Nat.le_refl _, fun _ _ => rfl⟩
theorem wrapM {x m n : Nat} (h : x + m ≤ n) (hn : n ≤ 131072) : wrap64 ((x : Int) + (m : Int)) = ((x + m : Nat) : Int) := by
  rw [IntWalk.wrap64_in _ ⟨by omega, by omega⟩]
  omega
theorem wrapD {x n : Nat} (h : x ≤ n) (hn : n ≤ 131072) : wrap64 ((n : Int) - (x : Int)) = ((n - x : Nat) : Int) := by
  rw [IntWalk.wrap64_in _ ⟨by omega, by omega⟩]
  omega
theorem wrapM' {x m n : Nat} (h : x + m ≤ n) (hn : n ≤ 131072) : IntKind.i64.wrap ((x : Int) + (m : Int)) = ((x + m : Nat) : Int) := by
  rw [IntWalk.i64_in _ ⟨by omega, by omega⟩]
  omega
theorem wrapD' {x n : Nat} (h : x ≤ n) (hn : n ≤ 131072) : IntKind.i64.wrap ((n : Int) - (x : Int)) = ((n - x : Nat) : Int) := by
  rw [IntWalk.i64_in _ ⟨by omega, by omega⟩]
  omega
theorem neqT {x : List Int} (hx : x.length = 16) (w : World) : (Op.equalIn 10000 36 (.agg (VI .u8 x)) (.agg (VI .u8 x))).run Try.prog w = .ok true w := by
  rw [eqT hx hx, beq_self_eq_true]
set_option maxRecDepth 100000 in
set_option maxHeartbeats 16000000 in
theorem cuts_walk (key : List Int) (hk : Key32 key) (D : List Int) (hDb : Byt D) (a : Option Addr) (cap : Nat) (W : World) (hR : RdB W (.slice a D.length cap) D) (C : List Int) (ac : Option Addr) (capc : Nat) (hC : ∀ x ∈ C, -9223372036854775808 ≤ x ∧ x < 9223372036854775808) (hRI : RdI W ac C) :
    Calls Try.prog 8 #[.agg (VI .u8 key), .slice a D.length cap, .slice ac C.length capc] W fun e w' => e = .returned (.bool true) ∧ Below W.heap.size W w' := by
  have e1 := (ev_nil' W).new (.cells (VI .u8 key) 23)
  obtain ⟨q, hq⟩ : ∃ q, W.heap.size = q := ⟨_, rfl⟩
  have HSR : Hid (∀ bx, Src q W bx (.slice a D.length cap) D) := by
    have : ∀ bx, Src q W bx (.slice a D.length cap) D := fun bx => by rw [← hq]; exact hR.src bx
    exact this
  obtain ⟨W0, hW0⟩ : ∃ V, W.alloc (.cells (VI .u8 key) 23) = V := ⟨_, rfl⟩
  rw [hW0, hq] at e1
  rw [hq]
  have HCL : Hid (∀ i, i < C.length → ∃ b o, ac = some ⟨b, o, none⟩ ∧ ∀ Y, Below q W Y → Y.cell? ⟨b, o + i, none⟩ = some (.int .i64 (C.getD i 0))) := by
    have : ∀ i, i < C.length → ∃ b o, ac = some ⟨b, o, none⟩ ∧ ∀ Y, Below q W Y → Y.cell? ⟨b, o + i, none⟩ = some (.int .i64 (C.getD i 0)) := fun i hi => by
      obtain ⟨b, o, h1, h2⟩ := hRI.at i hi
      refine ⟨b, o, h1, fun Y hY => ?_⟩
      rw [World.cell?_of_block (a := ⟨b, o + i, none⟩) (hY.block b (by rw [← hq]; exact World.block_lt_of_cell? W _ h2))]
      exact h2
    exact this
  have hlc : D.length ≤ cap := by
    obtain ⟨a', c', e, h, _⟩ := hR
    injection e with _ _ e3
    rw [e3]; exact h
  obtain ⟨n, hn⟩ : ∃ n, D.length = n := ⟨_, rfl⟩
  have E1 : Hid (Ev q W (.pointer none) [] [(q, .cells (VI .u8 key) 23)] W0) := e1
  have HK : Hid (Key32 key ∧ Byt D ∧ D.length = n ∧ n ≤ cap) := ⟨hk, hDb, hn, by rw [← hn]; exact hlc⟩
  rw [hn] at HSR ⊢
  have HI : Hid ((Try.prog.info? 23).map (·.size) = some (VI .u8 key).size) := by
    have : (Try.prog.info? 23).map (·.size) = some (VI .u8 key).size := by rw [VI_size, hk.len]; exact infoK
    exact this
  have HI' : Hid ((Try.prog.info? 23).map (·.size) = some key.length) := by
    have : (Try.prog.info? 23).map (·.size) = some key.length := by rw [hk.len]; exact infoK
    exact this
  have HIT : Hid ((Try.prog.info? 36).map (·.size) = some (VI .u8 (mtag key D)).size) := by
    have : (Try.prog.info? 36).map (·.size) = some (VI .u8 (mtag key D)).size := by rw [VI_size, mtag_len]; exact infoT
    exact this
  have HCB : Hid (∀ x ∈ C, -9223372036854775808 ≤ x ∧ x < 9223372036854775808) := hC
  have HQ : Hid (W.heap.size = q) := hq
  clear e1 hk hDb hn hR hRI hC hlc
  by_cases hbig : n ≤ 131072
  · have b0 : ¬ (131072 : Int) < (n : Int) := by omega
    have b0' : ¬ 131072 < n := by omega
    have HB : Hid (n ≤ 131072) := hbig
    have h1 := E1.out.new (.cells #[.slice a n cap] 30)
    have hg1 : W0.heap.size = q + 1 := by rw [← hW0, size_alloc, HQ.out]
    obtain ⟨W1, hW1⟩ : ∃ V, W0.alloc (.cells #[.slice a n cap] 30) = V := ⟨_, rfl⟩
    rw [hW1, hg1] at h1
    have HLD : Hid (W0.rangeAt q 0 (key.map (Value.int .u8))) := row_range (E1.out.row mem0)
    have CO : Hid (Calls Try.prog 24 #[.pointer none, .agg (VI .u8 key), .slice (some ⟨q + 1, 0, none⟩) 1 1] W1 fun e w' => e = .returned (.agg (VI .u8 (mtag key D))) ∧ Ev q W (.pointer none) [] [(q, .cells (VI .u8 key) 23)] w') := by
      have := of_any (Ds := [D]) (cap := 1) h1 HK.out.1 ⟨rfl, fun j hj => by
        have hj1 : j < 1 := hj
        obtain rfl : j = 0 := by omega
        exact ⟨_, 0, _, rfl, fun Z _ hq => by rw [cell_of_row Z _ _ _ _ _ (hq _ mem0)]; rfl, HSR.out _⟩⟩ (fun P hP => by rw [List.mem_singleton.1 hP]; exact HK.out.2.1) (by simp; rw [HK.out.2.2.1]; omega)
      refine this.mono (fun e w' hh => ?_)
      obtain ⟨rfl, hh⟩ := hh
      refine ⟨by simp, (hh.nilOf []).sub (fun p hp => memr1 hp)⟩
    clear h1
    go_enter Try.func8, Try.ntmps8
    go_upto_region 4 with (first | (go_at_call 24; refine Calls.mono CO.out ?_; rintro e W2 ⟨rfl, h2⟩; have H2 : Hid _ := h2; clear h2) | (with_reducible refine at_list ?_; first | (refine load_midI rfl 23 (.tmp 3) rfl q 0 rfl .u8 key _ HLD.out Try.underlying23 rfl HI'.out ?_) | (refine hold_store 36 (.tmp 7) (.tmp 20) rfl ?_)))
    refine store_row_new rfl 36 (.tmp 7) (.tmp 20) rfl W2.heap.size (VI .u8 (mtag key D)) rfl rfl rfl 36 (VI .u8 (List.replicate 16 0)) HIT.out (by rw [VI_size, VI_size, mtag_len]; rfl) (VI_one _ _) ?_
    have h3 := H2.out.new (.cells (VI .u8 (mtag key D)) 36)
    have hpq := H2.out.lt mem0
    obtain ⟨p7, hp7⟩ : ∃ p, W2.heap.size = p := ⟨_, rfl⟩
    obtain ⟨W3, hW3⟩ : ∃ V, W2.alloc (.cells (VI .u8 (mtag key D)) 36) = V := ⟨_, rfl⟩
    rw [hW3, hp7] at h3 ⊢
    rw [hp7] at hpq
    have HL3 : Hid (W3.rangeAt q 0 (key.map (Value.int .u8))) := row_range (h3.row mem1)
    have hp3 := h3.lt mem0
    have CN : Hid (Calls Try.prog 10 #[.pointer none, .agg (VI .u8 key)] W3 fun e w' => ∃ g, e = .returned (.pointer (some ⟨g, 0, none⟩)) ∧ (p7 < g ∧ q < g) ∧ CS q W g p7 key D 0 [] (.slice none 0 0) w') := (mnew_any h3 HK.out.1).mono (fun e w' hh => by
      obtain ⟨g, rfl, hg, hh⟩ := hh
      exact ⟨g, rfl, ⟨by omega, by omega⟩, [], [], lst_nil _ _, (fun j hj => nomatch hj), hh, (fun p hp => nomatch hp)⟩)
    clear h3 hp3 hW3 hp7 H2 CO HLD hW1 hg1 hW0 E1
    go_upto_region 7 with (first | (go_at_call 10; refine Calls.mono CN.out ?_; rintro e W4 ⟨g, rfl, hg, h4⟩; have HG : Hid (g ≠ p7 ∧ g ≠ q ∧ p7 ≠ q) := ⟨by omega, by omega, by omega⟩; have H4 : Hid _ := h4; clear h4 hg) | (with_reducible refine at_list ?_; first | (refine load_midI rfl 23 (.tmp 3) rfl q 0 rfl .u8 key _ HL3.out Try.underlying23 rfl HI'.out ?_)))
    clear CN HL3 hpq
    go_wp2_with fail
    go_loopw [9, 10, 11] (fun vl va vi w' => ∃ (i x : Nat) (Ps : List (List Int)), i ≤ 400 ∧ i ≤ C.length ∧ vi = .int .i64 (i : Int) ∧ x ≤ n ∧ va = .int .i64 (x : Int) ∧ Ps.length ≤ i ∧ BytL Ps ∧ Ps.flatten = D.take x ∧ CS q W g p7 key D x Ps vl w') (fun _ _ vi _ => 400 - (intOf vi).toNat)
    case atStart => exact ⟨0, 0, [], Nat.zero_le _, Nat.zero_le _, rfl, Nat.zero_le _, rfl, Nat.le_refl _, (fun D hD => nomatch hD), by simp, H4.out⟩
    case round =>
      clear H4
      obtain ⟨i, x, Ps, hi4, hic, rfl, hx, rfl, hpi, hpb, hpf, hcs⟩ := hrel
      have HP : Hid (Ps.length ≤ i ∧ BytL Ps ∧ Ps.flatten = D.take x ∧ x ≤ n ∧ i ≤ 400) := ⟨hpi, hpb, hpf, hx, hi4⟩
      have HCS : Hid (CS q W g p7 key D x Ps u9 wr) := hcs
      clear hpi hpb hpf hcs
      by_cases hgo : i < C.length ∧ i < 400
      · obtain ⟨hlt, hlt4⟩ := hgo
        have b1 : (i : Int) < (C.length : Int) := by omega
        have b2 : (i : Int) < 400 := by omega
        obtain ⟨b, o, rfl, hcc⟩ := HCL.out i hlt
        have hcb : -9223372036854775808 ≤ C.getD i 0 ∧ C.getD i 0 < 9223372036854775808 := by
          rw [List.getD_eq_getElem?_getD, List.getElem?_eq_getElem hlt]
          exact HCB.out _ (List.getElem_mem _)
        obtain ⟨c, hc⟩ : ∃ c, C.getD i 0 = c := ⟨_, rfl⟩
        rw [hc] at hcc hcb
        have HCC : Hid (∀ Y, Below q W Y → Y.cell? ⟨b, o + i, none⟩ = some (.int .i64 c)) := hcc
        have c1 := hcc wr HCS.out.old
        have HW1 : Hid (wrap64 ((n : Int) - (x : Int)) = ((n - x : Nat) : Int) ∧ IntKind.i64.wrap ((n : Int) - (x : Int)) = ((n - x : Nat) : Int)) := ⟨wrapD hx hbig, wrapD' hx hbig⟩
        have HI1 : Hid (i < C.length ∧ i < 400) := ⟨hlt, hlt4⟩
        clear hcc hc
        by_cases hneg : c < 0
        · obtain ⟨hw1, hw1'⟩ := HW1.out
          go_wp2
          go_roundw
          case rel => exact ⟨i + 1, x, Ps, HI1.out.2, HI1.out.1, by go_num, HP.out.2.2.2.1, rfl, by have := HP.out.1; omega, HP.out.2.1, HP.out.2.2.1, HCS.out⟩
          case measure => have := HI1.out.2; simp [intOf]; omega
        · obtain ⟨m, rfl⟩ : ∃ m : Nat, c = (m : Int) := ⟨c.toNat, by omega⟩
          have b3 : ¬ (m : Int) < 0 := by omega
          by_cases hgt : n - x < m
          · have b4 : ((n - x : Nat) : Int) < (m : Int) := by omega
            obtain ⟨hw1, hw1'⟩ := HW1.out
            go_wp2
            go_roundw
            case rel => exact ⟨i + 1, x, Ps, HI1.out.2, HI1.out.1, by go_num, HP.out.2.2.2.1, rfl, by have := HP.out.1; omega, HP.out.2.1, HP.out.2.2.1, HCS.out⟩
            case measure => have := HI1.out.2; simp [intOf]; omega
          · have b4 : ¬ ((n - x : Nat) : Int) < (m : Int) := by omega
            have b4' : ¬ n - x < m := hgt
            have hxm : x + m ≤ n := by omega
            obtain ⟨y, hy⟩ : ∃ y, x + m = y := ⟨_, rfl⟩
            have HW2 : Hid (wrap64 ((x : Int) + (m : Int)) = (y : Int) ∧ IntKind.i64.wrap ((x : Int) + (m : Int)) = (y : Int)) := by
              have : wrap64 ((x : Int) + (m : Int)) = (y : Int) ∧ IntKind.i64.wrap ((x : Int) + (m : Int)) = (y : Int) := by
                rw [← hy]
                exact ⟨wrapM hxm HB.out, wrapM' hxm HB.out⟩
              exact this
            have hmid := fun w => run_mid w a n cap x y (x : Int) (y : Int) rfl rfl (by omega) (by have := HK.out.2.2.2; omega)
            have hsm := (HSR.out []).mid x y (by omega) (by omega)
            have eym : y - x = m := by omega
            rw [eym] at hsm
            simp only [eym] at hmid
            obtain ⟨a3, ha3⟩ : ∃ a3, adv a cap x = a3 := ⟨_, rfl⟩
            obtain ⟨c3, hc3⟩ : ∃ c3, cap - x = c3 := ⟨_, rfl⟩
            simp only [ha3, hc3] at hmid hsm
            obtain ⟨P, hP⟩ : ∃ P, (D.drop x).take m = P := ⟨_, rfl⟩
            rw [hP] at hsm
            have etk : D.take x ++ P = D.take y := by rw [← hP, ← hy, ← List.take_add]
            have HM : Hid (Src q W [] (.slice a3 m c3) P ∧ D.take x ++ P = D.take y ∧ y ≤ n) := ⟨hsm, etk, by omega⟩
            have HAP : Hid (∀ ty, ∃ v' w', (Builtin.append_ #[48, 48] ty #[u9, .slice (some ⟨wr.heap.size, 0, none⟩) 1 1]).run Try.prog (wr.alloc (.cells #[.slice a3 m c3] 30)) = .ok v' w' ∧ CS q W g p7 key D x (Ps ++ [P]) v' w') := fun ty => HCS.out.app hsm (by have := HP.out.1; omega) ty
            have HPB : Hid (Byt P) := by
              have : Byt P := fun z hz => HK.out.2.1 z (List.mem_of_mem_take (by rw [← etk]; exact List.mem_append_right _ hz : z ∈ D.take y))
              exact this
            have c1' := HCC.out _ ((HCS.out.below ((Below.refl wr.heap.size wr).alloc (Nat.le_refl _) (.cells #[.slice a3 m c3] 30))).old)
            clear hsm etk hP ha3 hc3 hgt hneg hxm hy eym
            obtain ⟨hw1, hw1'⟩ := HW1.out
            obtain ⟨hw2, hw2'⟩ := HW2.out
            go_wp2_with (first | (at_builtin; refine wpList_app _ rfl (.tmp 51) (.tmp 61) 48 48 rfl _ _ rfl rfl HAP.out ?_; intro v5 w5 h5; have c5 := HCC.out w5 h5.old; have CW : Hid _ := h5.write HK.out.1 HK.out.2.1 (by rw [HK.out.2.2.1]; exact HB.out) HG.out.1 HG.out.2.1 HM.out.1 HM.out.2.1; clear h5) | (go_at_call 16; refine Calls.mono CW.out ?_; rintro e w6 ⟨rfl, h6⟩; have c6 := HCC.out w6 h6.old; have H6 : Hid _ := h6; clear h6))
            go_roundw
            case rel => exact ⟨i + 1, y, Ps ++ [P], HI1.out.2, HI1.out.1, by go_num, HM.out.2.2, rfl, by have := HP.out.1; simp; omega, (fun E hE => by
              rcases List.mem_append.1 hE with hE | hE
              · exact HP.out.2.1 E hE
              · rw [List.mem_singleton.1 hE]; exact HPB.out), by rw [List.flatten_append, HP.out.2.2.1]; simpa using HM.out.2.1, H6.out⟩
            case measure => have := HI1.out.2; simp [intOf]; omega
      · have HNG : Hid (¬ (i < C.length ∧ i < 400)) := hgo
        by_cases hlt : i < C.length
        · have b1 : (i : Int) < (C.length : Int) := by omega
          have b2 : ¬ (i : Int) < 400 := by omega
          clear hgo HNG
          have hx' := HP.out.2.2.2.1
          have hfrom := fun w => run_from w a n cap x (x : Int) rfl hx' HK.out.2.2.2
          have hsr := (HSR.out []).from' x hx'
          obtain ⟨a3, ha3⟩ : ∃ a3, adv a cap x = a3 := ⟨_, rfl⟩
          obtain ⟨c3, hc3⟩ : ∃ c3, cap - x = c3 := ⟨_, rfl⟩
          obtain ⟨m, hm⟩ : ∃ m, n - x = m := ⟨_, rfl⟩
          simp only [ha3, hc3, hm] at hfrom hsr
          have etk : D.take x ++ D.drop x = D.take n := by rw [List.take_append_drop, List.take_of_length_le (by rw [HK.out.2.2.1]; exact Nat.le_refl _)]
          have HTK : Hid (D.take n = D) := by
            have : D.take n = D := List.take_of_length_le (by rw [HK.out.2.2.1]; exact Nat.le_refl _)
            exact this
          have HM : Hid (Src q W [] (.slice a3 m c3) (D.drop x) ∧ D.take x ++ D.drop x = D.take n) := ⟨hsr, etk⟩
          have HAP : Hid (∀ ty, ∃ v' w', (Builtin.append_ #[48, 48] ty #[u9, .slice (some ⟨wr.heap.size, 0, none⟩) 1 1]).run Try.prog (wr.alloc (.cells #[.slice a3 m c3] 30)) = .ok v' w' ∧ CS q W g p7 key D x (Ps ++ [D.drop x]) v' w') := fun ty => HCS.out.app hsr (by have := HP.out.1; have := HP.out.2.2.2.2; omega) ty
          have HPS : Hid (BytL (Ps ++ [D.drop x]) ∧ (Ps ++ [D.drop x]).length ≤ 1000 ∧ (Ps ++ [D.drop x]).flatten.length ≤ 131072 ∧ (Ps ++ [D.drop x]).flatten = D) := by
            have hfl : (Ps ++ [D.drop x]).flatten = D := by rw [List.flatten_append, HP.out.2.2.1]; simp
            have : BytL (Ps ++ [D.drop x]) ∧ (Ps ++ [D.drop x]).length ≤ 1000 ∧ (Ps ++ [D.drop x]).flatten.length ≤ 131072 ∧ (Ps ++ [D.drop x]).flatten = D := ⟨(fun E hE => by
              rcases List.mem_append.1 hE with hE | hE
              · exact HP.out.2.1 E hE
              · rw [List.mem_singleton.1 hE]; exact fun z hz => HK.out.2.1 z (List.mem_of_mem_drop hz)), by have := HP.out.1; have := HP.out.2.2.2.2; simp; omega, by rw [hfl, HK.out.2.2.1]; exact HB.out, hfl⟩
            exact this
          clear hsr etk ha3 hc3 hm hx hx' hic hi4
          go_upto_region 18 with (first | (at_builtin; refine wpList_app _ rfl (.tmp 80) (.tmp 84) 48 48 rfl _ _ rfl rfl HAP.out ?_; intro v5 w5 h5; have CW : Hid _ := h5.write HK.out.1 HK.out.2.1 (by rw [HK.out.2.2.1]; exact HB.out) HG.out.1 HG.out.2.1 HM.out.1 HM.out.2; clear h5) | (go_at_call 16; refine Calls.mono CW.out ?_; rintro e w6 ⟨rfl, h6⟩; have H6 : Hid _ := h6; clear h6))
          clear HAP CW HM HCS HP hfrom
          have EQ := fun w => neqT (mtag_len key D) w
          refine wp_region_quiet_in (C := fun Y => CS q W g p7 key D n (Ps ++ [D.drop x]) v5 Y) (by kernel_rfl) (by kernel_rfl) (CS.below (show CS q W g p7 key D n (Ps ++ [D.drop x]) v5 w6 from H6.out) (below_drew _)) ?_
          refine wpQuiet_step (fun K hK => ?_)
          refine if_pos_mpr (by kernel_rfl) ⟨.agg (VI .u8 key), fun Y hY => quietAt_load_row 23 (.tmp 3) rfl q rfl 23 (VI .u8 key) (0, 0) _ (hY.ev.row mem2) Try.underlying23 rfl HI.out, hK _ ?_⟩
          clear hK K
          try simp only [Act.put, List.getElem_toArray, List.getElem_cons_succ, List.getElem_cons_zero, List.getElem?_toArray, List.getElem?_cons_succ, List.getElem?_cons_zero, List.setIfInBounds_toArray, List.set_cons_zero, List.set_cons_succ]
          refine wpQuiet_step (fun K hK => ?_)
          go_simp
          first | refine hK _ ?_ | refine ⟨_, fun _ _ => rfl, hK _ ?_⟩
          clear hK K
          try simp only [Act.put, List.getElem_toArray, List.getElem_cons_succ, List.getElem_cons_zero, List.getElem?_toArray, List.getElem?_cons_succ, List.getElem?_cons_zero, List.setIfInBounds_toArray, List.set_cons_zero, List.set_cons_succ]
          refine wpQuiet_step (fun K hK => ?_)
          refine if_pos_mpr (by kernel_rfl) ⟨.agg (VI .u8 (mtag key D)), fun Y hY => ?_, hK _ ?_⟩
          · go_simp
            exact (hY.of HK.out.1 HPS.out.1 HPS.out.2.1 HPS.out.2.2.1).mono (fun e w' hh => by rw [HPS.out.2.2.2] at hh; exact hh)
          clear hK K
          try simp only [Act.put, List.getElem_toArray, List.getElem_cons_succ, List.getElem_cons_zero, List.getElem?_toArray, List.getElem?_cons_succ, List.getElem?_cons_zero, List.setIfInBounds_toArray, List.set_cons_zero, List.set_cons_succ]
          refine wpQuiet_step (fun K hK => ?_)
          refine if_pos_mpr (by kernel_rfl) ⟨.agg (VI .u8 (mtag key D)), fun Y hY => quietAt_load_row 36 (.tmp 7) rfl p7 rfl 36 (VI .u8 (mtag key D)) (0, 0) _ (hY.ev.row mem1) Try.underlying36 rfl HIT.out, hK _ ?_⟩
          clear hK K
          try simp only [Act.put, List.getElem_toArray, List.getElem_cons_succ, List.getElem_cons_zero, List.getElem?_toArray, List.getElem?_cons_succ, List.getElem?_cons_zero, List.setIfInBounds_toArray, List.set_cons_zero, List.set_cons_succ]
          refine wpQuiet_step (fun K hK => ?_)
          go_simp
          first | refine hK _ ?_ | refine ⟨_, fun _ _ => rfl, hK _ ?_⟩
          clear hK K
          try simp only [Act.put, List.getElem_toArray, List.getElem_cons_succ, List.getElem_cons_zero, List.getElem?_toArray, List.getElem?_cons_succ, List.getElem?_cons_zero, List.setIfInBounds_toArray, List.set_cons_zero, List.set_cons_succ]
          refine wpQuiet_step (fun K hK => ?_)
          go_simp
          first | refine hK _ ?_ | refine ⟨_, fun _ _ => rfl, hK _ ?_⟩
          clear hK K
          try simp only [Act.put, List.getElem_toArray, List.getElem_cons_succ, List.getElem_cons_zero, List.getElem?_toArray, List.getElem?_cons_succ, List.getElem?_cons_zero, List.setIfInBounds_toArray, List.set_cons_zero, List.set_cons_succ]
          refine wpQuiet_step (fun K hK => ?_)
          go_simp
          first | refine hK _ ?_ | refine ⟨_, fun _ _ => rfl, hK _ ?_⟩
          clear hK K
          try simp only [Act.put, List.getElem_toArray, List.getElem_cons_succ, List.getElem_cons_zero, List.getElem?_toArray, List.getElem?_cons_succ, List.getElem?_cons_zero, List.setIfInBounds_toArray, List.set_cons_zero, List.set_cons_succ]
          refine wpQuiet_step (fun K hK => ?_)
          refine if_pos_mpr (by kernel_rfl) ⟨.agg (VI .u8 (mtag key D)), fun Y hY => ?_, hK _ ?_⟩
          · go_simp
            exact (hY.tag HK.out.1 HK.out.2.1).mono (fun e w' hh => by rw [HTK.out] at hh; exact hh)
          clear hK K
          try simp only [Act.put, List.getElem_toArray, List.getElem_cons_succ, List.getElem_cons_zero, List.getElem?_toArray, List.getElem?_cons_succ, List.getElem?_cons_zero, List.setIfInBounds_toArray, List.set_cons_zero, List.set_cons_succ]
          refine wpQuiet_step (fun K hK => ?_)
          refine if_pos_mpr (by kernel_rfl) ⟨.agg (VI .u8 (mtag key D)), fun Y hY => quietAt_load_row 36 (.tmp 7) rfl p7 rfl 36 (VI .u8 (mtag key D)) (0, 0) _ (hY.ev.row mem1) Try.underlying36 rfl HIT.out, hK _ ?_⟩
          clear hK K
          try simp only [Act.put, List.getElem_toArray, List.getElem_cons_succ, List.getElem_cons_zero, List.getElem?_toArray, List.getElem?_cons_succ, List.getElem?_cons_zero, List.setIfInBounds_toArray, List.set_cons_zero, List.set_cons_succ]
          refine wpQuiet_step (fun K hK => ?_)
          go_simp
          first | refine hK _ ?_ | refine ⟨_, fun _ _ => rfl, hK _ ?_⟩
          clear hK K
          try simp only [Act.put, List.getElem_toArray, List.getElem_cons_succ, List.getElem_cons_zero, List.getElem?_toArray, List.getElem?_cons_succ, List.getElem?_cons_zero, List.setIfInBounds_toArray, List.set_cons_zero, List.set_cons_succ]
          refine wpQuiet_step (fun K hK => ?_)
          go_simp
          first | refine hK _ ?_ | refine ⟨_, fun _ _ => rfl, hK _ ?_⟩
          clear hK K
          try simp only [Act.put, List.getElem_toArray, List.getElem_cons_succ, List.getElem_cons_zero, List.getElem?_toArray, List.getElem?_cons_succ, List.getElem?_cons_zero, List.setIfInBounds_toArray, List.set_cons_zero, List.set_cons_succ]
          intro w7 h7
          have h7' := h7.ev
          have H7 : Hid (Ev q W (.pointer none) [] [(p7, .cells (VI .u8 (mtag key D)) 36), (q, .cells (VI .u8 key) 23)] w7) := h7'.tail
          clear h7 h7' H6
          by_cases h300 : 300 < n
          · have b5 : (300 : Int) < (n : Int) := by omega
            have CK : Hid (Calls Try.prog 21 #[] w7 fun e w' => e = .returned (.bool true) ∧ Below q W w') := (known_any w7).mono (fun e w' hh => ⟨hh.1, (H7.out.below hh.2).old⟩)
            go_wp2_with (first | (go_at_call 21; refine Calls.mono CK.out ?_; rintro e w8 ⟨rfl, h8⟩; have H8 : Hid _ := h8; clear h8))
            go_ret
            exact ⟨rfl, H8.out⟩
          · have b5 : ¬ (300 : Int) < (n : Int) := by omega
            have H300 : Hid (n ≤ 300) := by show n ≤ 300; omega
            have HLD : Hid (w7.rangeAt q 0 (key.map (Value.int .u8))) := row_range (H7.out.row mem1)
            have CN : Hid (Calls Try.prog 10 #[.pointer none, .agg (VI .u8 key)] w7 fun e w' => ∃ g, e = .returned (.pointer (some ⟨g, 0, none⟩)) ∧ (p7 ≠ g ∧ q ≠ g) ∧ Ev q W (.pointer none) [] [(g, mst (.pointer none) key (D.take 0)), (p7, .cells (VI .u8 (mtag key D)) 36), (q, .cells (VI .u8 key) 23)] w') := (mnew_any H7.out HK.out.1).mono (fun e w' hh => by
              obtain ⟨g, rfl, hg, hh⟩ := hh
              have k1 := H7.out.lt mem0
              have k2 := H7.out.lt mem1
              exact ⟨g, rfl, ⟨by omega, by omega⟩, hh⟩)
            go_upto_region 23 with (first | (go_at_call 10; refine Calls.mono CN.out ?_; rintro e w8 ⟨g2, rfl, hg2, h8⟩; have H8 : Hid _ := h8; have HG2 : Hid (p7 ≠ g2 ∧ q ≠ g2) := hg2; clear h8 hg2) | (with_reducible refine at_list ?_; first | (refine load_midI rfl 23 (.tmp 3) rfl q 0 rfl .u8 key _ HLD.out Try.underlying23 rfl HI'.out ?_)))
            clear CN HLD H7 HPS
            go_wp2_with fail
            go_loopw [13] (fun v w' => ∃ i : Nat, i ≤ n ∧ v = .int .i64 (i : Int) ∧ Ev q W (.pointer none) [] [(g2, mst (.pointer none) key (D.take i)), (p7, .cells (VI .u8 (mtag key D)) 36), (q, .cells (VI .u8 key) 23)] w') (fun v _ => n - (intOf v).toNat)
            case atStart => exact ⟨0, Nat.zero_le _, rfl, H8.out⟩
            case round =>
              clear H8
              obtain ⟨j, hj, rfl, he⟩ := hrel
              by_cases hlt2 : j < n
              · have b6 : (j : Int) < (n : Int) := by omega
                have hmid := fun w => run_mid w a n cap j (j + 1) (j : Int) ((j + 1 : Nat) : Int) rfl rfl (by omega) (by have := HK.out.2.2.2; omega)
                have hsm := (HSR.out [(p7, .cells (VI .u8 (mtag key D)) 36), (q, .cells (VI .u8 key) 23)]).mid j (j + 1) (by omega) (by omega)
                have e1 : j + 1 - j = 1 := by omega
                simp only [e1] at hmid hsm
                have hw : ((j + 1 : Nat) : Int) = (j : Int) + 1 := by omega
                simp only [hw] at hmid
                obtain ⟨a4, ha4⟩ : ∃ a4, adv a cap j = a4 := ⟨_, rfl⟩
                obtain ⟨c4, hc4⟩ : ∃ c4, cap - j = c4 := ⟨_, rfl⟩
                simp only [ha4, hc4] at hmid hsm
                have etk2 : D.take j ++ (D.drop j).take 1 = D.take (j + 1) := by rw [← List.take_add]
                have HJ : Hid (j < n ∧ n ≤ 300) := ⟨hlt2, H300.out⟩
                have CW2 : Hid (Calls Try.prog 16 #[.pointer (some ⟨g2, 0, none⟩), .slice a4 1 c4] wr fun e w' => e = .returned (.tuple #[]) ∧ Ev q W (.pointer none) [] [(g2, mst (.pointer none) key (D.take (j + 1))), (p7, .cells (VI .u8 (mtag key D)) 36), (q, .cells (VI .u8 key) 23)] w') := by
                  have := mwrite_any he (fun p hp => by
                    simp only [List.mem_cons, List.not_mem_nil, or_false] at hp
                    rcases hp with rfl | rfl
                    · exact HG2.out.1
                    · exact HG2.out.2) (by simp; omega) HK.out.1 (fun z hz => HK.out.2.1 z (List.mem_of_mem_take hz)) (fun z hz => HK.out.2.1 z (List.mem_of_mem_drop (List.mem_of_mem_take hz))) hsm
                  rw [etk2] at this
                  exact this.mono (fun e w' hh => ⟨hh.1, hh.2.nilOf []⟩)
                clear he hsm ha4 hc4 etk2 e1 hw hj
                go_wp2_with (first | (go_at_call 16; refine Calls.mono CW2.out ?_; rintro e w9 ⟨rfl, h9⟩; have CT2 : Hid _ := mtag_any h9 (by decide) HK.out.1 (fun z hz => HK.out.2.1 z (List.mem_of_mem_take hz)); clear h9) | (go_at_call 13; refine Calls.mono CT2.out ?_; rintro e w10 ⟨rfl, h10⟩; have H10 : Hid _ := h10.nilOf []; clear h10))
                go_roundw
                case rel => exact ⟨j + 1, HJ.out.1, by go_num, H10.out⟩
                case measure => have := HJ.out.1; simp only [intOf]; omega
              · have b6 : ¬ (j : Int) < (n : Int) := by omega
                have ej : j = n := by omega
                rw [ej, HTK.out] at he
                have H9 : Hid (Ev q W (.pointer none) [] [(g2, mst (.pointer none) key D), (p7, .cells (VI .u8 (mtag key D)) 36), (q, .cells (VI .u8 key) 23)] wr) := he
                clear he hj ej
                go_upto_region 28 with fail
                refine wp_region_quiet_in (C := fun Y => Ev q W (.pointer none) [] [(g2, mst (.pointer none) key D), (p7, .cells (VI .u8 (mtag key D)) 36), (q, .cells (VI .u8 key) 23)] Y) (by kernel_rfl) (by kernel_rfl) H9.out.drew ?_
                refine wpQuiet_step (fun K hK => ?_)
                go_simp
                first | refine hK _ ?_ | refine ⟨_, fun _ _ => rfl, hK _ ?_⟩
                clear hK K
                try simp only [Act.put, List.getElem_toArray, List.getElem_cons_succ, List.getElem_cons_zero, List.getElem?_toArray, List.getElem?_cons_succ, List.getElem?_cons_zero, List.setIfInBounds_toArray, List.set_cons_zero, List.set_cons_succ]
                refine wpQuiet_step (fun K hK => ?_)
                refine if_pos_mpr (by kernel_rfl) ⟨.agg (VI .u8 (mtag key D)), fun Y hY => ?_, hK _ ?_⟩
                · go_simp
                  exact (mtag_any hY (by decide) HK.out.1 HK.out.2.1).mono (fun e w' hh => ⟨hh.1, hh.2.nilOf []⟩)
                clear hK K
                try simp only [Act.put, List.getElem_toArray, List.getElem_cons_succ, List.getElem_cons_zero, List.getElem?_toArray, List.getElem?_cons_succ, List.getElem?_cons_zero, List.setIfInBounds_toArray, List.set_cons_zero, List.set_cons_succ]
                refine wpQuiet_step (fun K hK => ?_)
                refine if_pos_mpr (by kernel_rfl) ⟨.agg (VI .u8 (mtag key D)), fun Y hY => quietAt_load_row 36 (.tmp 7) rfl p7 rfl 36 (VI .u8 (mtag key D)) (0, 0) _ (hY.row mem1) Try.underlying36 rfl HIT.out, hK _ ?_⟩
                clear hK K
                try simp only [Act.put, List.getElem_toArray, List.getElem_cons_succ, List.getElem_cons_zero, List.getElem?_toArray, List.getElem?_cons_succ, List.getElem?_cons_zero, List.setIfInBounds_toArray, List.set_cons_zero, List.set_cons_succ]
                refine wpQuiet_step (fun K hK => ?_)
                go_simp
                first | refine hK _ ?_ | refine ⟨_, fun _ _ => rfl, hK _ ?_⟩
                clear hK K
                try simp only [Act.put, List.getElem_toArray, List.getElem_cons_succ, List.getElem_cons_zero, List.getElem?_toArray, List.getElem?_cons_succ, List.getElem?_cons_zero, List.setIfInBounds_toArray, List.set_cons_zero, List.set_cons_succ]
                refine wpQuiet_step (fun K hK => ?_)
                go_simp
                first | refine hK _ ?_ | refine ⟨_, fun _ _ => rfl, hK _ ?_⟩
                clear hK K
                try simp only [Act.put, List.getElem_toArray, List.getElem_cons_succ, List.getElem_cons_zero, List.getElem?_toArray, List.getElem?_cons_succ, List.getElem?_cons_zero, List.setIfInBounds_toArray, List.set_cons_zero, List.set_cons_succ]
                refine wpQuiet_step (fun K hK => ?_)
                refine if_pos_mpr (by kernel_rfl) ⟨.bool true, fun Y hY => ?_, hK _ ?_⟩
                · go_simp
                  exact (known_any Y).mono (fun e w' hh => ⟨hh.1, hY.below hh.2⟩)
                clear hK K
                try simp only [Act.put, List.getElem_toArray, List.getElem_cons_succ, List.getElem_cons_zero, List.getElem?_toArray, List.getElem?_cons_succ, List.getElem?_cons_zero, List.setIfInBounds_toArray, List.set_cons_zero, List.set_cons_succ]
                refine wpQuiet_step (fun K hK => ?_)
                go_simp
                first | refine hK _ ?_ | refine ⟨_, fun _ _ => rfl, hK _ ?_⟩
                clear hK K
                try simp only [Act.put, List.getElem_toArray, List.getElem_cons_succ, List.getElem_cons_zero, List.getElem?_toArray, List.getElem?_cons_succ, List.getElem?_cons_zero, List.setIfInBounds_toArray, List.set_cons_zero, List.set_cons_succ]
                refine wpQuiet_step (fun K hK => ?_)
                go_simp
                first | refine hK _ ?_ | refine ⟨_, fun _ _ => rfl, hK _ ?_⟩
                clear hK K
                try simp only [Act.put, List.getElem_toArray, List.getElem_cons_succ, List.getElem_cons_zero, List.getElem?_toArray, List.getElem?_cons_succ, List.getElem?_cons_zero, List.setIfInBounds_toArray, List.set_cons_zero, List.set_cons_succ]
                intro w11 h11
                have HF : Hid (Below q W w11) := h11.old
                clear h11
                go_wp2
                go_ret
                exact ⟨rfl, HF.out⟩
        · have b1 : ¬ (i : Int) < (C.length : Int) := by omega
          clear hgo HNG
          have hx' := HP.out.2.2.2.1
          have hfrom := fun w => run_from w a n cap x (x : Int) rfl hx' HK.out.2.2.2
          have hsr := (HSR.out []).from' x hx'
          obtain ⟨a3, ha3⟩ : ∃ a3, adv a cap x = a3 := ⟨_, rfl⟩
          obtain ⟨c3, hc3⟩ : ∃ c3, cap - x = c3 := ⟨_, rfl⟩
          obtain ⟨m, hm⟩ : ∃ m, n - x = m := ⟨_, rfl⟩
          simp only [ha3, hc3, hm] at hfrom hsr
          have etk : D.take x ++ D.drop x = D.take n := by rw [List.take_append_drop, List.take_of_length_le (by rw [HK.out.2.2.1]; exact Nat.le_refl _)]
          have HTK : Hid (D.take n = D) := by
            have : D.take n = D := List.take_of_length_le (by rw [HK.out.2.2.1]; exact Nat.le_refl _)
            exact this
          have HM : Hid (Src q W [] (.slice a3 m c3) (D.drop x) ∧ D.take x ++ D.drop x = D.take n) := ⟨hsr, etk⟩
          have HAP : Hid (∀ ty, ∃ v' w', (Builtin.append_ #[48, 48] ty #[u9, .slice (some ⟨wr.heap.size, 0, none⟩) 1 1]).run Try.prog (wr.alloc (.cells #[.slice a3 m c3] 30)) = .ok v' w' ∧ CS q W g p7 key D x (Ps ++ [D.drop x]) v' w') := fun ty => HCS.out.app hsr (by have := HP.out.1; have := HP.out.2.2.2.2; omega) ty
          have HPS : Hid (BytL (Ps ++ [D.drop x]) ∧ (Ps ++ [D.drop x]).length ≤ 1000 ∧ (Ps ++ [D.drop x]).flatten.length ≤ 131072 ∧ (Ps ++ [D.drop x]).flatten = D) := by
            have hfl : (Ps ++ [D.drop x]).flatten = D := by rw [List.flatten_append, HP.out.2.2.1]; simp
            have : BytL (Ps ++ [D.drop x]) ∧ (Ps ++ [D.drop x]).length ≤ 1000 ∧ (Ps ++ [D.drop x]).flatten.length ≤ 131072 ∧ (Ps ++ [D.drop x]).flatten = D := ⟨(fun E hE => by
              rcases List.mem_append.1 hE with hE | hE
              · exact HP.out.2.1 E hE
              · rw [List.mem_singleton.1 hE]; exact fun z hz => HK.out.2.1 z (List.mem_of_mem_drop hz)), by have := HP.out.1; have := HP.out.2.2.2.2; simp; omega, by rw [hfl, HK.out.2.2.1]; exact HB.out, hfl⟩
            exact this
          clear hsr etk ha3 hc3 hm hx hx' hic hi4
          go_upto_region 18 with (first | (at_builtin; refine wpList_app _ rfl (.tmp 80) (.tmp 84) 48 48 rfl _ _ rfl rfl HAP.out ?_; intro v5 w5 h5; have CW : Hid _ := h5.write HK.out.1 HK.out.2.1 (by rw [HK.out.2.2.1]; exact HB.out) HG.out.1 HG.out.2.1 HM.out.1 HM.out.2; clear h5) | (go_at_call 16; refine Calls.mono CW.out ?_; rintro e w6 ⟨rfl, h6⟩; have H6 : Hid _ := h6; clear h6))
          clear HAP CW HM HCS HP hfrom
          have EQ := fun w => neqT (mtag_len key D) w
          refine wp_region_quiet_in (C := fun Y => CS q W g p7 key D n (Ps ++ [D.drop x]) v5 Y) (by kernel_rfl) (by kernel_rfl) (CS.below (show CS q W g p7 key D n (Ps ++ [D.drop x]) v5 w6 from H6.out) (below_drew _)) ?_
          refine wpQuiet_step (fun K hK => ?_)
          refine if_pos_mpr (by kernel_rfl) ⟨.agg (VI .u8 key), fun Y hY => quietAt_load_row 23 (.tmp 3) rfl q rfl 23 (VI .u8 key) (0, 0) _ (hY.ev.row mem2) Try.underlying23 rfl HI.out, hK _ ?_⟩
          clear hK K
          try simp only [Act.put, List.getElem_toArray, List.getElem_cons_succ, List.getElem_cons_zero, List.getElem?_toArray, List.getElem?_cons_succ, List.getElem?_cons_zero, List.setIfInBounds_toArray, List.set_cons_zero, List.set_cons_succ]
          refine wpQuiet_step (fun K hK => ?_)
          go_simp
          first | refine hK _ ?_ | refine ⟨_, fun _ _ => rfl, hK _ ?_⟩
          clear hK K
          try simp only [Act.put, List.getElem_toArray, List.getElem_cons_succ, List.getElem_cons_zero, List.getElem?_toArray, List.getElem?_cons_succ, List.getElem?_cons_zero, List.setIfInBounds_toArray, List.set_cons_zero, List.set_cons_succ]
          refine wpQuiet_step (fun K hK => ?_)
          refine if_pos_mpr (by kernel_rfl) ⟨.agg (VI .u8 (mtag key D)), fun Y hY => ?_, hK _ ?_⟩
          · go_simp
            exact (hY.of HK.out.1 HPS.out.1 HPS.out.2.1 HPS.out.2.2.1).mono (fun e w' hh => by rw [HPS.out.2.2.2] at hh; exact hh)
          clear hK K
          try simp only [Act.put, List.getElem_toArray, List.getElem_cons_succ, List.getElem_cons_zero, List.getElem?_toArray, List.getElem?_cons_succ, List.getElem?_cons_zero, List.setIfInBounds_toArray, List.set_cons_zero, List.set_cons_succ]
          refine wpQuiet_step (fun K hK => ?_)
          refine if_pos_mpr (by kernel_rfl) ⟨.agg (VI .u8 (mtag key D)), fun Y hY => quietAt_load_row 36 (.tmp 7) rfl p7 rfl 36 (VI .u8 (mtag key D)) (0, 0) _ (hY.ev.row mem1) Try.underlying36 rfl HIT.out, hK _ ?_⟩
          clear hK K
          try simp only [Act.put, List.getElem_toArray, List.getElem_cons_succ, List.getElem_cons_zero, List.getElem?_toArray, List.getElem?_cons_succ, List.getElem?_cons_zero, List.setIfInBounds_toArray, List.set_cons_zero, List.set_cons_succ]
          refine wpQuiet_step (fun K hK => ?_)
          go_simp
          first | refine hK _ ?_ | refine ⟨_, fun _ _ => rfl, hK _ ?_⟩
          clear hK K
          try simp only [Act.put, List.getElem_toArray, List.getElem_cons_succ, List.getElem_cons_zero, List.getElem?_toArray, List.getElem?_cons_succ, List.getElem?_cons_zero, List.setIfInBounds_toArray, List.set_cons_zero, List.set_cons_succ]
          refine wpQuiet_step (fun K hK => ?_)
          go_simp
          first | refine hK _ ?_ | refine ⟨_, fun _ _ => rfl, hK _ ?_⟩
          clear hK K
          try simp only [Act.put, List.getElem_toArray, List.getElem_cons_succ, List.getElem_cons_zero, List.getElem?_toArray, List.getElem?_cons_succ, List.getElem?_cons_zero, List.setIfInBounds_toArray, List.set_cons_zero, List.set_cons_succ]
          refine wpQuiet_step (fun K hK => ?_)
          go_simp
          first | refine hK _ ?_ | refine ⟨_, fun _ _ => rfl, hK _ ?_⟩
          clear hK K
          try simp only [Act.put, List.getElem_toArray, List.getElem_cons_succ, List.getElem_cons_zero, List.getElem?_toArray, List.getElem?_cons_succ, List.getElem?_cons_zero, List.setIfInBounds_toArray, List.set_cons_zero, List.set_cons_succ]
          refine wpQuiet_step (fun K hK => ?_)
          refine if_pos_mpr (by kernel_rfl) ⟨.agg (VI .u8 (mtag key D)), fun Y hY => ?_, hK _ ?_⟩
          · go_simp
            exact (hY.tag HK.out.1 HK.out.2.1).mono (fun e w' hh => by rw [HTK.out] at hh; exact hh)
          clear hK K
          try simp only [Act.put, List.getElem_toArray, List.getElem_cons_succ, List.getElem_cons_zero, List.getElem?_toArray, List.getElem?_cons_succ, List.getElem?_cons_zero, List.setIfInBounds_toArray, List.set_cons_zero, List.set_cons_succ]
          refine wpQuiet_step (fun K hK => ?_)
          refine if_pos_mpr (by kernel_rfl) ⟨.agg (VI .u8 (mtag key D)), fun Y hY => quietAt_load_row 36 (.tmp 7) rfl p7 rfl 36 (VI .u8 (mtag key D)) (0, 0) _ (hY.ev.row mem1) Try.underlying36 rfl HIT.out, hK _ ?_⟩
          clear hK K
          try simp only [Act.put, List.getElem_toArray, List.getElem_cons_succ, List.getElem_cons_zero, List.getElem?_toArray, List.getElem?_cons_succ, List.getElem?_cons_zero, List.setIfInBounds_toArray, List.set_cons_zero, List.set_cons_succ]
          refine wpQuiet_step (fun K hK => ?_)
          go_simp
          first | refine hK _ ?_ | refine ⟨_, fun _ _ => rfl, hK _ ?_⟩
          clear hK K
          try simp only [Act.put, List.getElem_toArray, List.getElem_cons_succ, List.getElem_cons_zero, List.getElem?_toArray, List.getElem?_cons_succ, List.getElem?_cons_zero, List.setIfInBounds_toArray, List.set_cons_zero, List.set_cons_succ]
          refine wpQuiet_step (fun K hK => ?_)
          go_simp
          first | refine hK _ ?_ | refine ⟨_, fun _ _ => rfl, hK _ ?_⟩
          clear hK K
          try simp only [Act.put, List.getElem_toArray, List.getElem_cons_succ, List.getElem_cons_zero, List.getElem?_toArray, List.getElem?_cons_succ, List.getElem?_cons_zero, List.setIfInBounds_toArray, List.set_cons_zero, List.set_cons_succ]
          intro w7 h7
          have h7' := h7.ev
          have H7 : Hid (Ev q W (.pointer none) [] [(p7, .cells (VI .u8 (mtag key D)) 36), (q, .cells (VI .u8 key) 23)] w7) := h7'.tail
          clear h7 h7' H6
          by_cases h300 : 300 < n
          · have b5 : (300 : Int) < (n : Int) := by omega
            have CK : Hid (Calls Try.prog 21 #[] w7 fun e w' => e = .returned (.bool true) ∧ Below q W w') := (known_any w7).mono (fun e w' hh => ⟨hh.1, (H7.out.below hh.2).old⟩)
            go_wp2_with (first | (go_at_call 21; refine Calls.mono CK.out ?_; rintro e w8 ⟨rfl, h8⟩; have H8 : Hid _ := h8; clear h8))
            go_ret
            exact ⟨rfl, H8.out⟩
          · have b5 : ¬ (300 : Int) < (n : Int) := by omega
            have H300 : Hid (n ≤ 300) := by show n ≤ 300; omega
            have HLD : Hid (w7.rangeAt q 0 (key.map (Value.int .u8))) := row_range (H7.out.row mem1)
            have CN : Hid (Calls Try.prog 10 #[.pointer none, .agg (VI .u8 key)] w7 fun e w' => ∃ g, e = .returned (.pointer (some ⟨g, 0, none⟩)) ∧ (p7 ≠ g ∧ q ≠ g) ∧ Ev q W (.pointer none) [] [(g, mst (.pointer none) key (D.take 0)), (p7, .cells (VI .u8 (mtag key D)) 36), (q, .cells (VI .u8 key) 23)] w') := (mnew_any H7.out HK.out.1).mono (fun e w' hh => by
              obtain ⟨g, rfl, hg, hh⟩ := hh
              have k1 := H7.out.lt mem0
              have k2 := H7.out.lt mem1
              exact ⟨g, rfl, ⟨by omega, by omega⟩, hh⟩)
            go_upto_region 23 with (first | (go_at_call 10; refine Calls.mono CN.out ?_; rintro e w8 ⟨g2, rfl, hg2, h8⟩; have H8 : Hid _ := h8; have HG2 : Hid (p7 ≠ g2 ∧ q ≠ g2) := hg2; clear h8 hg2) | (with_reducible refine at_list ?_; first | (refine load_midI rfl 23 (.tmp 3) rfl q 0 rfl .u8 key _ HLD.out Try.underlying23 rfl HI'.out ?_)))
            clear CN HLD H7 HPS
            go_wp2_with fail
            go_loopw [13] (fun v w' => ∃ i : Nat, i ≤ n ∧ v = .int .i64 (i : Int) ∧ Ev q W (.pointer none) [] [(g2, mst (.pointer none) key (D.take i)), (p7, .cells (VI .u8 (mtag key D)) 36), (q, .cells (VI .u8 key) 23)] w') (fun v _ => n - (intOf v).toNat)
            case atStart => exact ⟨0, Nat.zero_le _, rfl, H8.out⟩
            case round =>
              clear H8
              obtain ⟨j, hj, rfl, he⟩ := hrel
              by_cases hlt2 : j < n
              · have b6 : (j : Int) < (n : Int) := by omega
                have hmid := fun w => run_mid w a n cap j (j + 1) (j : Int) ((j + 1 : Nat) : Int) rfl rfl (by omega) (by have := HK.out.2.2.2; omega)
                have hsm := (HSR.out [(p7, .cells (VI .u8 (mtag key D)) 36), (q, .cells (VI .u8 key) 23)]).mid j (j + 1) (by omega) (by omega)
                have e1 : j + 1 - j = 1 := by omega
                simp only [e1] at hmid hsm
                have hw : ((j + 1 : Nat) : Int) = (j : Int) + 1 := by omega
                simp only [hw] at hmid
                obtain ⟨a4, ha4⟩ : ∃ a4, adv a cap j = a4 := ⟨_, rfl⟩
                obtain ⟨c4, hc4⟩ : ∃ c4, cap - j = c4 := ⟨_, rfl⟩
                simp only [ha4, hc4] at hmid hsm
                have etk2 : D.take j ++ (D.drop j).take 1 = D.take (j + 1) := by rw [← List.take_add]
                have HJ : Hid (j < n ∧ n ≤ 300) := ⟨hlt2, H300.out⟩
                have CW2 : Hid (Calls Try.prog 16 #[.pointer (some ⟨g2, 0, none⟩), .slice a4 1 c4] wr fun e w' => e = .returned (.tuple #[]) ∧ Ev q W (.pointer none) [] [(g2, mst (.pointer none) key (D.take (j + 1))), (p7, .cells (VI .u8 (mtag key D)) 36), (q, .cells (VI .u8 key) 23)] w') := by
                  have := mwrite_any he (fun p hp => by
                    simp only [List.mem_cons, List.not_mem_nil, or_false] at hp
                    rcases hp with rfl | rfl
                    · exact HG2.out.1
                    · exact HG2.out.2) (by simp; omega) HK.out.1 (fun z hz => HK.out.2.1 z (List.mem_of_mem_take hz)) (fun z hz => HK.out.2.1 z (List.mem_of_mem_drop (List.mem_of_mem_take hz))) hsm
                  rw [etk2] at this
                  exact this.mono (fun e w' hh => ⟨hh.1, hh.2.nilOf []⟩)
                clear he hsm ha4 hc4 etk2 e1 hw hj
                go_wp2_with (first | (go_at_call 16; refine Calls.mono CW2.out ?_; rintro e w9 ⟨rfl, h9⟩; have CT2 : Hid _ := mtag_any h9 (by decide) HK.out.1 (fun z hz => HK.out.2.1 z (List.mem_of_mem_take hz)); clear h9) | (go_at_call 13; refine Calls.mono CT2.out ?_; rintro e w10 ⟨rfl, h10⟩; have H10 : Hid _ := h10.nilOf []; clear h10))
                go_roundw
                case rel => exact ⟨j + 1, HJ.out.1, by go_num, H10.out⟩
                case measure => have := HJ.out.1; simp only [intOf]; omega
              · have b6 : ¬ (j : Int) < (n : Int) := by omega
                have ej : j = n := by omega
                rw [ej, HTK.out] at he
                have H9 : Hid (Ev q W (.pointer none) [] [(g2, mst (.pointer none) key D), (p7, .cells (VI .u8 (mtag key D)) 36), (q, .cells (VI .u8 key) 23)] wr) := he
                clear he hj ej
                go_upto_region 28 with fail
                refine wp_region_quiet_in (C := fun Y => Ev q W (.pointer none) [] [(g2, mst (.pointer none) key D), (p7, .cells (VI .u8 (mtag key D)) 36), (q, .cells (VI .u8 key) 23)] Y) (by kernel_rfl) (by kernel_rfl) H9.out.drew ?_
                refine wpQuiet_step (fun K hK => ?_)
                go_simp
                first | refine hK _ ?_ | refine ⟨_, fun _ _ => rfl, hK _ ?_⟩
                clear hK K
                try simp only [Act.put, List.getElem_toArray, List.getElem_cons_succ, List.getElem_cons_zero, List.getElem?_toArray, List.getElem?_cons_succ, List.getElem?_cons_zero, List.setIfInBounds_toArray, List.set_cons_zero, List.set_cons_succ]
                refine wpQuiet_step (fun K hK => ?_)
                refine if_pos_mpr (by kernel_rfl) ⟨.agg (VI .u8 (mtag key D)), fun Y hY => ?_, hK _ ?_⟩
                · go_simp
                  exact (mtag_any hY (by decide) HK.out.1 HK.out.2.1).mono (fun e w' hh => ⟨hh.1, hh.2.nilOf []⟩)
                clear hK K
                try simp only [Act.put, List.getElem_toArray, List.getElem_cons_succ, List.getElem_cons_zero, List.getElem?_toArray, List.getElem?_cons_succ, List.getElem?_cons_zero, List.setIfInBounds_toArray, List.set_cons_zero, List.set_cons_succ]
                refine wpQuiet_step (fun K hK => ?_)
                refine if_pos_mpr (by kernel_rfl) ⟨.agg (VI .u8 (mtag key D)), fun Y hY => quietAt_load_row 36 (.tmp 7) rfl p7 rfl 36 (VI .u8 (mtag key D)) (0, 0) _ (hY.row mem1) Try.underlying36 rfl HIT.out, hK _ ?_⟩
                clear hK K
                try simp only [Act.put, List.getElem_toArray, List.getElem_cons_succ, List.getElem_cons_zero, List.getElem?_toArray, List.getElem?_cons_succ, List.getElem?_cons_zero, List.setIfInBounds_toArray, List.set_cons_zero, List.set_cons_succ]
                refine wpQuiet_step (fun K hK => ?_)
                go_simp
                first | refine hK _ ?_ | refine ⟨_, fun _ _ => rfl, hK _ ?_⟩
                clear hK K
                try simp only [Act.put, List.getElem_toArray, List.getElem_cons_succ, List.getElem_cons_zero, List.getElem?_toArray, List.getElem?_cons_succ, List.getElem?_cons_zero, List.setIfInBounds_toArray, List.set_cons_zero, List.set_cons_succ]
                refine wpQuiet_step (fun K hK => ?_)
                go_simp
                first | refine hK _ ?_ | refine ⟨_, fun _ _ => rfl, hK _ ?_⟩
                clear hK K
                try simp only [Act.put, List.getElem_toArray, List.getElem_cons_succ, List.getElem_cons_zero, List.getElem?_toArray, List.getElem?_cons_succ, List.getElem?_cons_zero, List.setIfInBounds_toArray, List.set_cons_zero, List.set_cons_succ]
                refine wpQuiet_step (fun K hK => ?_)
                refine if_pos_mpr (by kernel_rfl) ⟨.bool true, fun Y hY => ?_, hK _ ?_⟩
                · go_simp
                  exact (known_any Y).mono (fun e w' hh => ⟨hh.1, hY.below hh.2⟩)
                clear hK K
                try simp only [Act.put, List.getElem_toArray, List.getElem_cons_succ, List.getElem_cons_zero, List.getElem?_toArray, List.getElem?_cons_succ, List.getElem?_cons_zero, List.setIfInBounds_toArray, List.set_cons_zero, List.set_cons_succ]
                refine wpQuiet_step (fun K hK => ?_)
                go_simp
                first | refine hK _ ?_ | refine ⟨_, fun _ _ => rfl, hK _ ?_⟩
                clear hK K
                try simp only [Act.put, List.getElem_toArray, List.getElem_cons_succ, List.getElem_cons_zero, List.getElem?_toArray, List.getElem?_cons_succ, List.getElem?_cons_zero, List.setIfInBounds_toArray, List.set_cons_zero, List.set_cons_succ]
                refine wpQuiet_step (fun K hK => ?_)
                go_simp
                first | refine hK _ ?_ | refine ⟨_, fun _ _ => rfl, hK _ ?_⟩
                clear hK K
                try simp only [Act.put, List.getElem_toArray, List.getElem_cons_succ, List.getElem_cons_zero, List.getElem?_toArray, List.getElem?_cons_succ, List.getElem?_cons_zero, List.setIfInBounds_toArray, List.set_cons_zero, List.set_cons_succ]
                intro w11 h11
                have HF : Hid (Below q W w11) := h11.old
                clear h11
                go_wp2
                go_ret
                exact ⟨rfl, HF.out⟩
  · have b0 : (131072 : Int) < (n : Int) := by omega
    have b0' : 131072 < n := by omega
    have HF : Hid (Below q W W0) := E1.out.old
    go_enter Try.func8, Try.ntmps8
    go_wp2
    go_ret
    exact ⟨rfl, HF.out⟩
end Go.Proofs.Ytgfamcadgahiiaa
