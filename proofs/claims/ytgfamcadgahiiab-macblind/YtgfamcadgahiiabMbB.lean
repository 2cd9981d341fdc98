import Derived.Test.YtgfamcadgahiiabMbA
import Derived.Test.YtgfamcadgahiiabMacL
namespace Go.Proofs.Ytgfamcadgahiiab
set_option linter.unusedSimpArgs false
set_option linter.unusedVariables false
open Go.ChangeShapes Go.WideShapes Go.ChangeAt Go.RowKit Go.Pin Go.Prm
/-- a piece comes to the twin -/
theorem bl_app {q : Nat} {W : World} {bx : List (Nat × Obj)} {K : List (Nat × List Int)} {v : Value} {lt : List (Nat × Obj)} {p : Nat} {D : List Int} {m : Nat} {wr : World} (hL : Lst 32 1 v K.length (K.map twp) lt) (h : Ev q W (.pointer none) [] ((p, Obj.cells (VI .u8 D) 5) :: (lt ++ (tbx K ++ bx))) wr) (hd : ∀ r ∈ lt, ∀ s ∈ tbx K ++ bx, s.1 ≠ r.1) (hp : ∀ r ∈ lt ++ (tbx K ++ bx), r.1 ≠ p) (hm : D.length = m) (hK : K.length ≤ 1000) (ty : TypeId) :
    ∃ v' w', (Builtin.append_ #[24, 24] ty #[v, .slice (some ⟨wr.heap.size, 0, none⟩) 1 1]).run Try.prog (wr.alloc (.cells #[.slice (some ⟨p, 0, none⟩) m m] 32)) = .ok v' w' ∧ BL q W bx (K ++ [(p, D)]) v' w' := by
  subst hm
  have h1 := h.below (w' := wr.alloc (.cells #[.slice (some ⟨p, 0, none⟩) D.length D.length] 32)) ((Below.refl _ _).alloc (Nat.le_refl _) _)
  have h2 := h1.sub (by' := lt ++ ((p, Obj.cells (VI .u8 D) 5) :: (tbx K ++ bx))) (fun r hr => by
    simp only [List.mem_append, List.mem_cons] at hr ⊢
    rcases hr with hr | hr | hr | hr
    · exact .inr (.inl hr)
    · exact .inl hr
    · exact .inr (.inr (.inl hr))
    · exact .inr (.inr (.inr hr)))
  obtain ⟨v', w', hr, lb', k1, k2, k3⟩ := h2.appS hL (fun r hr s hs => by
    rcases List.mem_cons.1 hs with rfl | hs
    · exact fun e => hp r (List.mem_append_left _ hr) e.symm
    · exact hd r hr s hs) ty (g := wr.heap.size) (a := some ⟨p, 0, none⟩) (m := D.length) (c := D.length) (heap_alloc_new wr _) hK
  refine ⟨v', w', hr, lb', ?_, k2.sub (fun r hr => ?_), fun r hr s hs => k3 r hr s ?_⟩
  · rw [List.length_append, List.map_append]; exact k1
  · simp only [tbx, List.map_append, List.map_cons, List.map_nil, List.mem_append, List.mem_cons, List.not_mem_nil, or_false] at hr ⊢
    rcases hr with hr | (hr | hr) | hr
    · exact .inl hr
    · exact .inr (.inr (.inl hr))
    · exact .inr (.inl hr)
    · exact .inr (.inr (.inr hr))
  · simp only [tbx, List.map_append, List.map_cons, List.map_nil, List.mem_append, List.mem_cons, List.not_mem_nil, or_false] at hs ⊢
    rcases hs with (hs | hs) | hs
    · exact .inr (.inl hs)
    · exact .inl hs
    · exact .inr (.inr hs)
theorem olg_two (ns : List Nat) : 2 ≤ (olg ns).length := by
  have h1 : 0 < (tlog (ns.sum % 16)).length := by unfold tlog; split <;> simp
  unfold olg
  simp only [List.length_append, List.length_cons, List.length_nil]
  omega
set_option maxRecDepth 100000 in
set_option maxHeartbeats 16000000 in
theorem blind_walk (one : List Int) (hk1 : Key32 one) (two : List Int) (hk2 : Key32 two) (Ds : List (List Int)) (hD : BytL Ds) (a : Option Addr) (cap : Nat) (O : List Int) (hO : Byt O) (ao : Option Addr) (capo : Nat) (tg : List Int) (htg : Tag16 tg) (W : World) (hR : PRd W a Ds) (hz : ∀ D ∈ Ds, D.length ≤ reachBytes) (hm : Ds.length ≤ maxLen) (hRO : RdB W (.slice ao O.length capo) O) (hOm : O.length ≤ maxLen) :
    Calls Try.prog 4 #[.agg (VI .u8 one), .agg (VI .u8 two), .slice a Ds.length cap, .slice ao O.length capo, .agg (VI .u8 tg)] W fun e w' => e = .returned (.bool true) ∧ Below W.heap.size W w' := by
  have e1 := (((ev_nil' W).new (.cells (VI .u8 one) 23)).new (.cells (VI .u8 two) 23)).new (.cells (VI .u8 tg) 27)
  have hsrc := fun bx => hR.src hm bx
  obtain ⟨q, hq⟩ : ∃ q, W.heap.size = q := ⟨_, rfl⟩
  obtain ⟨no, hno⟩ : ∃ no, O.length = no := ⟨_, rfl⟩
  rw [hno] at hRO ⊢
  have hoat := rdb_at hq hRO
  rw [hq] at hsrc
  simp only [size_alloc, hq] at e1
  obtain ⟨V0, hV0⟩ : ∃ V, W.alloc (.cells (VI .u8 one) 23) = V := ⟨_, rfl⟩
  obtain ⟨V1, hV1⟩ : ∃ V, V0.alloc (.cells (VI .u8 two) 23) = V := ⟨_, rfl⟩
  obtain ⟨W0, hW0⟩ : ∃ V, V1.alloc (.cells (VI .u8 tg) 27) = V := ⟨_, rfl⟩
  have hsV : V0.heap.size = q + 1 := by rw [← hV0, size_alloc, hq]
  have hsV1 : V1.heap.size = q + 2 := by rw [← hV1, size_alloc, hsV]
  rw [hV0, hV1, hW0] at e1
  rw [hq]
  obtain ⟨n, hn⟩ : ∃ n, Ds.length = n := ⟨_, rfl⟩
  rw [hn] at hsrc ⊢
  have HS : Hid (∀ bx, PSrc q W bx a n Ds) := hsrc
  have HK : Hid (Key32 one ∧ Key32 two ∧ BytL Ds ∧ Ds.length = n ∧ Tag16 tg ∧ Byt O ∧ no ≤ maxLen) := ⟨hk1, hk2, hD, hn, htg, hO, by rw [← hno]; exact hOm⟩
  have HO : Hid (O.length = no ∧ no ≤ capo ∧ ∀ i, i < no → ∃ b o, ao = some ⟨b, o, none⟩ ∧ b < q ∧ ∀ Y, Below q W Y → Y.cell? ⟨b, o + i, none⟩ = some (.int .u8 (O.getD i 0))) := hoat
  have HI1 : Hid ((Try.prog.info? 23).map (·.size) = some (VI .u8 one).size) := by
    have : (Try.prog.info? 23).map (·.size) = some (VI .u8 one).size := by rw [VI_size, hk1.len]; exact infoK
    exact this
  have HJ1 : Hid ((Try.prog.info? 23).map (·.size) = some one.length) := by
    have : (Try.prog.info? 23).map (·.size) = some one.length := by rw [hk1.len]; exact infoK
    exact this
  have HJ2 : Hid ((Try.prog.info? 23).map (·.size) = some two.length) := by
    have : (Try.prog.info? 23).map (·.size) = some two.length := by rw [hk2.len]; exact infoK
    exact this
  have HJT : Hid ((Try.prog.info? 27).map (·.size) = some tg.length) := by
    have : (Try.prog.info? 27).map (·.size) = some tg.length := by rw [htg.len]; exact infoT
    exact this
  have CL : Hid (Calls Try.prog 5 #[.slice a n cap] W0 fun e w' => e = .returned (.bool (lng Ds)) ∧ w' = W0) := long_any e1 (hsrc _) (fun D hD => Nat.le_trans (hz D hD) (by decide))
  have HB0 : Hid (Below q W W0) := e1.old
  by_cases hlg : lng Ds = true
  · rw [hlg] at CL
    clear e1 hsrc hk1 hk2 hD hR hz hm hn htg hO hRO hoat hno hOm
    go_enter Try.func4, Try.ntmps4
    go_wp2_with (first | (go_at_call 5; refine Calls.mono CL.out ?_; rintro e V9 ⟨rfl, hV⟩; obtain rfl := hV))
    go_ret
    exact ⟨rfl, HB0.out⟩
  · have hlf : lng Ds = false := by simpa using hlg
    rw [hlf] at CL
    obtain ⟨hn4, hfl⟩ := lng_false hlf
    rw [hn] at hn4
    have hD1 : ∀ D ∈ Ds, D.length ≤ 131072 := fun D hD => by
      obtain ⟨i, hi, rfl⟩ := List.mem_iff_getElem.1 hD
      have := take_sum Ds i
      rw [List.getD_eq_getElem?_getD, List.getElem?_eq_getElem hi] at this
      simp only [Option.getD_some] at this
      omega
    have HN : Hid (n ≤ 400 ∧ Ds.flatten.length ≤ 131072 ∧ ∀ D ∈ Ds, D.length ≤ 131072) := ⟨hn4, hfl, hD1⟩
    have e2 := e1.new bxR
    obtain ⟨R, hRR⟩ : ∃ R, W0.heap.size = R := ⟨_, rfl⟩
    have CN1 : Hid (Calls Try.prog 9 #[] W0 fun e w' => e = .returned (.pointer (some ⟨R, 0, none⟩)) ∧ w' = W0.alloc bxR) := by
      have := new_any W0
      rw [hRR] at this
      exact this
    obtain ⟨W2, hW2⟩ : ∃ V, W0.alloc bxR = V := ⟨_, rfl⟩
    rw [hRR, hW2] at e2
    rw [hW2] at CN1
    have e3 := e2.new bxR
    have hRS : R < W2.heap.size := e2.lt mem0
    obtain ⟨S, hS⟩ : ∃ S, W2.heap.size = S := ⟨_, rfl⟩
    rw [hS] at hRS
    have CN2 : Hid (Calls Try.prog 9 #[] W2 fun e w' => e = .returned (.pointer (some ⟨S, 0, none⟩)) ∧ w' = W2.alloc bxR) := by
      have := new_any W2
      rw [hS] at this
      exact this
    obtain ⟨W3, hW3⟩ : ∃ V, W2.alloc bxR = V := ⟨_, rfl⟩
    rw [hS, hW3] at e3
    rw [hW3] at CN2
    have HRS : Hid (R < S) := hRS
    have H3 : Hid (BL q W [(S, bxR), (R, bxR), (q + 2, Obj.cells (VI .u8 tg) 27), (q + 1, Obj.cells (VI .u8 two) 23), (q, .cells (VI .u8 one) 23)] [] (.slice none 0 0) W3) := ⟨[], lst_nil _ _, e3, fun p hp => nomatch hp⟩
    clear e1 e2 e3 hsrc hk1 hk2 hD hR hz hm hn hn4 hfl hD1 hlg hlf htg hO hRO hoat hno hOm hRS hRR hS hW2 hW3
    go_enter Try.func4, Try.ntmps4
    go_upto_region 4 with (first | (go_at_call 5; refine Calls.mono CL.out ?_; rintro e V9 ⟨rfl, hV⟩; obtain rfl := hV) | (go_at_call 9; refine Calls.mono CN1.out ?_; rintro e V2 ⟨rfl, hV⟩; obtain rfl := hV))
    clear CN1 CL
    go_upto_region 5 with (first | (go_at_call 9; refine Calls.mono CN2.out ?_; rintro e V3 ⟨rfl, hV⟩; obtain rfl := hV))
    clear CN2 hV0 hV1 hW0 hsV hsV1 hq
    go_wp2
    go_loopw [13, 14] (fun v vi w' => ∃ (i : Nat) (K : List (Nat × List Int)), i ≤ n ∧ vi = .int .i64 (i : Int) ∧ (K.map fun p => p.2.length) = (Ds.take i).map List.length ∧ BytL (K.map Prod.snd) ∧ BL q W [(S, bxR), (R, bxR), (q + 2, Obj.cells (VI .u8 tg) 27), (q + 1, Obj.cells (VI .u8 two) 23), (q, .cells (VI .u8 one) 23)] K v w') (fun _ vi _ => n - (intOf vi).toNat)
    case atStart => exact ⟨0, [], Nat.zero_le _, rfl, rfl, (fun D hD => nomatch hD), H3.out⟩
    case round =>
      clear H3
      obtain ⟨i, K, hi, rfl, hK1, hK2, hbl⟩ := hrel
      have HKL : Hid (K.length = i) := by
        have := congrArg List.length hK1
        rw [List.length_map, List.length_map, List.length_take, HK.out.2.2.2.1] at this
        show K.length = i
        omega
      by_cases hlt : i < n
      · have b1 : (i : Int) < (n : Int) := by omega
        obtain ⟨b, o, y, rfl, hcu, hsu⟩ := (HS.out []).2 i hlt
        obtain ⟨lt, hL, hev, hdis⟩ := hbl
        have c1 := hcu wr hev.old (fun q hq => nomatch hq)
        obtain ⟨au, cu, rfl, hle, hrr⟩ := id hsu
        obtain ⟨D, hDe⟩ : ∃ D, Ds.getD i [] = D := ⟨_, rfl⟩
        rw [hDe] at c1
        obtain ⟨m, hme⟩ : ∃ m, D.length = m := ⟨_, rfl⟩
        have hm1 : m ≤ 131072 := by
          rw [← hme, ← hDe, List.getD_eq_getElem?_getD, List.getElem?_eq_getElem (by rw [HK.out.2.2.2.1]; exact hlt)]
          exact HN.out.2.2 _ (List.getElem_mem _)
        rw [hme] at c1
        have hmk := mk_b m (m : Int) rfl (by omega) wr
        have e5 := hev.new (.cells (VI .u8 (List.replicate m 0)) 5)
        have hfr : ∀ r ∈ lt ++ (tbx K ++ [(S, bxR), (R, bxR), (q + 2, Obj.cells (VI .u8 tg) 27), (q + 1, Obj.cells (VI .u8 two) 23), (q, .cells (VI .u8 one) 23)]), r.1 ≠ wr.heap.size := fun r hr => by have := heap_lt (hev.at' r hr); omega
        obtain ⟨p, hp⟩ : ∃ p, wr.heap.size = p := ⟨_, rfl⟩
        obtain ⟨W5, hW5⟩ : ∃ V, wr.alloc (.cells (VI .u8 (List.replicate m 0)) 5) = V := ⟨_, rfl⟩
        rw [hp] at hmk e5 hfr
        rw [hW5] at hmk e5
        have HLT : Hid (Lst 32 1 u13 K.length (K.map twp) lt ∧ (∀ r ∈ lt, ∀ s ∈ tbx K ++ [(S, bxR), (R, bxR), (q + 2, Obj.cells (VI .u8 tg) 27), (q + 1, Obj.cells (VI .u8 two) 23), (q, .cells (VI .u8 one) 23)], s.1 ≠ r.1) ∧ (∀ r ∈ lt ++ (tbx K ++ [(S, bxR), (R, bxR), (q + 2, Obj.cells (VI .u8 tg) 27), (q + 1, Obj.cells (VI .u8 two) 23), (q, .cells (VI .u8 one) 23)]), r.1 ≠ p)) := ⟨hL, hdis, hfr⟩
        have H5 : Hid (Ev q W (.pointer none) [] ((p, Obj.cells (VI .u8 (List.replicate m 0)) 5) :: (lt ++ (tbx K ++ [(S, bxR), (R, bxR), (q + 2, Obj.cells (VI .u8 tg) 27), (q + 1, Obj.cells (VI .u8 two) 23), (q, .cells (VI .u8 one) 23)]))) W5) := e5
        have HM : Hid (D.length = m ∧ Ds.getD i [] = D ∧ i < n ∧ n ≤ 400 ∧ m ≤ 131072) := ⟨hme, hDe, hlt, HN.out.1, hm1⟩
        have HK12 : Hid ((K.map fun p => p.2.length) = (Ds.take i).map List.length ∧ BytL (K.map Prod.snd)) := ⟨hK1, hK2⟩
        clear hcu hsu hle hrr hDe hme hm1 hev hL hdis hfr e5 hK1 hK2 hi hp hW5
        go_wp2
        go_loopw [16] (fun vk w' => ∃ (k : Nat) (B : List Int), k ≤ m ∧ vk = .int .i64 (k : Int) ∧ B.length = m ∧ Byt B ∧ Ev q W (.pointer none) [] ((p, Obj.cells (VI .u8 B) 5) :: (lt ++ (tbx K ++ [(S, bxR), (R, bxR), (q + 2, Obj.cells (VI .u8 tg) 27), (q + 1, Obj.cells (VI .u8 two) 23), (q, .cells (VI .u8 one) 23)]))) w') (fun vk _ => m - (intOf vk).toNat)
        case atStart => exact ⟨0, _, Nat.zero_le _, rfl, List.length_replicate .., (fun x hx => by rw [(List.mem_replicate.1 hx).2]; decide), H5.out⟩
        case round =>
          clear H5 hmk c1
          obtain ⟨k, B, hk, rfl, hBl, hBb, hev⟩ := hrel
          by_cases hkt : k < m
          · have b2 : (k : Int) < (m : Int) := by omega
            have hm5 := HM.out.2.2.2.2
            by_cases hno : 0 < no
            · have b3 : (no : Int) > 0 := by omega
              have b3' : (0 : Int) < (no : Int) := by omega
              have b4 : ¬ (no : Int) = 0 := by omega
              have hkm : k % no < no := Nat.mod_lt _ hno
              obtain ⟨bo, oo, rfl, hbq, hco⟩ := HO.out.2.2 (k % no) hkm
              have c2 := hco wr hev.old
              have hmd : (k : Int) % (no : Int) = ((k % no : Nat) : Int) := by omega
              have hmd2 : Int.tmod (k : Int) (no : Int) = ((k % no : Nat) : Int) := by rw [Int.tmod_eq_emod_of_nonneg (by omega)]; omega
              obtain ⟨j, hj⟩ : ∃ j, k % no = j := ⟨_, rfl⟩
              rw [hj] at c2 hmd hmd2 hkm
              obtain ⟨c3, f3, e6⟩ := hev.setAtH HLT.out.2.2 k (by rw [hBl]; exact hkt) (O.getD j 0)
              have hxb : 0 ≤ O.getD j 0 ∧ O.getD j 0 < 256 := by
                rw [List.getD_eq_getElem?_getD, List.getElem?_eq_getElem (by rw [HO.out.1]; exact hkm)]
                exact HK.out.2.2.2.2.2.1 _ (List.getElem_mem _)
              obtain ⟨x, hx⟩ : ∃ x, O.getD j 0 = x := ⟨_, rfl⟩
              rw [hx] at c2 e6 hxb
              obtain ⟨W6, hW6⟩ : ∃ V, wr.setCell ⟨p, k, none⟩ (.int .u8 x) = V := ⟨_, rfl⟩
              rw [hW6] at e6
              have H6 : Hid (Ev q W (.pointer none) [] ((p, Obj.cells (VI .u8 (B.set k x)) 5) :: (lt ++ (tbx K ++ [(S, bxR), (R, bxR), (q + 2, Obj.cells (VI .u8 tg) 27), (q + 1, Obj.cells (VI .u8 two) 23), (q, .cells (VI .u8 one) 23)]))) W6) := e6
              have HBX : Hid (B.length = m ∧ Byt B ∧ 0 ≤ x ∧ x < 256) := ⟨hBl, hBb, hxb⟩
              have hjn : (j : Int) < (no : Int) := by omega
              have hnm : no ≤ 9223372036854775807 := by have := HK.out.2.2.2.2.2.2; unfold maxLen at this; omega
              clear e6 hev hBl hBb hxb hx hj hco hbq
              go_wp2
              go_roundw
              case rel =>
                refine ⟨k + 1, B.set k x, hkt, by go_num, by rw [List.length_set]; exact HBX.out.1, fun z hz => ?_, H6.out⟩
                rcases List.mem_or_eq_of_mem_set hz with hz | rfl
                · exact HBX.out.2.1 z hz
                · exact HBX.out.2.2
              case measure => simp [intOf]; omega
            · have b3 : ¬ (no : Int) > 0 := by omega
              have b3' : ¬ (0 : Int) < (no : Int) := by omega
              have H6 : Hid (Ev q W (.pointer none) [] ((p, Obj.cells (VI .u8 B) 5) :: (lt ++ (tbx K ++ [(S, bxR), (R, bxR), (q + 2, Obj.cells (VI .u8 tg) 27), (q + 1, Obj.cells (VI .u8 two) 23), (q, .cells (VI .u8 one) 23)]))) wr) := hev
              have HBX : Hid (B.length = m ∧ Byt B) := ⟨hBl, hBb⟩
              clear hev hBl hBb
              go_wp2
              go_roundw
              case rel => exact ⟨k + 1, B, hkt, by go_num, HBX.out.1, HBX.out.2, H6.out⟩
              case measure => simp [intOf]; omega
          · have b2 : ¬ (k : Int) < (m : Int) := by omega
            have HAP : Hid (∀ ty, ∃ v' w', (Builtin.append_ #[24, 24] ty #[u13, .slice (some ⟨wr.heap.size, 0, none⟩) 1 1]).run Try.prog (wr.alloc (.cells #[.slice (some ⟨p, 0, none⟩) m m] 32)) = .ok v' w' ∧ BL q W [(S, bxR), (R, bxR), (q + 2, Obj.cells (VI .u8 tg) 27), (q + 1, Obj.cells (VI .u8 two) 23), (q, .cells (VI .u8 one) 23)] (K ++ [(p, B)]) v' w') := fun ty => bl_app HLT.out.1 hev HLT.out.2.1 HLT.out.2.2 hBl (by rw [HKL.out]; have := HM.out.2.2.1; have := HM.out.2.2.2.1; omega) ty
            have HBX : Hid (B.length = m ∧ Byt B) := ⟨hBl, hBb⟩
            clear hev hBl hBb
            go_wp2_with (first | (at_builtin; refine wpList_app _ rfl (.tmp 56) (.tmp 58) 24 24 rfl _ _ rfl rfl HAP.out ?_; intro v6 w6 h6; have H6 : Hid _ := h6; clear h6 HAP))
            go_roundw
            case rel =>
              refine ⟨i + 1, K ++ [(p, B)], HM.out.2.2.1, by rw [wrapS HM.out.2.2.1 (by have := HM.out.2.2.2.1; unfold maxLen; omega)]; exact congrArg (Value.int .i64) (by omega), ?_, ?_, H6.out⟩
              · rw [List.map_append, HK12.out.1, take_snocL Ds i (by rw [HK.out.2.2.2.1]; exact HM.out.2.2.1), List.map_append, HM.out.2.1]
                simp only [List.map_cons, List.map_nil, HBX.out.1, HM.out.1]
              · intro E hE
                rw [List.map_append] at hE
                rcases List.mem_append.1 hE with hE | hE
                · exact HK12.out.2 E hE
                · simp only [List.map_cons, List.map_nil, List.mem_singleton] at hE
                  rw [hE]; exact HBX.out.2
            case measure => exact measS HM.out.2.2.1 (by have := HM.out.2.2.2.1; unfold maxLen; omega)
      · have b1 : ¬ (i : Int) < (n : Int) := by omega
        have hin : i = n := by omega
        subst hin
        go_upto_region 16 with fail
        obtain ⟨lt, hL, hev, hdis⟩ := hbl
        have hKl := HKL.out
        obtain ⟨au, cu, rfl, hPT⟩ := psrc_twp (B := q) (w := W) hL (by rw [hKl]; have := HN.out.1; unfold maxLen; omega) (bx := (lt ++ (tbx K ++ [(q + 2, Obj.cells (VI .u8 tg) 27), (q + 1, Obj.cells (VI .u8 two) 23), (q, .cells (VI .u8 one) 23)]))) (fun p hp => List.mem_append_left _ hp) (fun p hp => List.mem_append_right _ (List.mem_append_left _ hp))
        rw [hKl] at hPT ⊢
        have hlens : (K.map Prod.snd).map List.length = Ds.map List.length := by
          rw [List.map_map]
          rw [List.take_of_length_le (by rw [HK.out.2.2.2.1]; exact Nat.le_refl _)] at hK1
          exact hK1
        have hflat : (K.map Prod.snd).flatten.length = Ds.flatten.length := by rw [flat_len, hlens, ← flat_len]
        have hrec : ∀ r ∈ (lt ++ (tbx K ++ [(q + 2, Obj.cells (VI .u8 tg) 27), (q + 1, Obj.cells (VI .u8 two) 23), (q, .cells (VI .u8 one) 23)])), r.1 ≠ R ∧ r.1 ≠ S := by
          have rR := hev.row (g := R) (x := bxR) (List.mem_append_right _ (List.mem_append_right _ mem1))
          have rS := hev.row (g := S) (x := bxR) (List.mem_append_right _ (List.mem_append_right _ mem0))
          intro r hr
          simp only [List.mem_append] at hr
          rcases hr with hr | hr | hr
          · exact ⟨fun e => hdis r hr (R, bxR) (List.mem_append_right _ mem1) e.symm, fun e => hdis r hr (S, bxR) (List.mem_append_right _ mem0) e.symm⟩
          · have rr := hev.at' r (List.mem_append_right _ (List.mem_append_left _ hr))
            obtain ⟨z, hz, rfl⟩ := List.mem_map.1 hr
            refine ⟨fun e => ?_, fun e => ?_⟩
            · rw [e, rR] at rr; have h3 := Option.some.inj rr; injection h3 with _ h4; exact absurd h4 (by decide)
            · rw [e, rS] at rr; have h3 := Option.some.inj rr; injection h3 with _ h4; exact absurd h4 (by decide)
          · have rr := hev.at' r (List.mem_append_right _ (List.mem_append_right _ (List.mem_cons_of_mem _ (List.mem_cons_of_mem _ hr))))
            simp only [List.mem_cons, List.not_mem_nil, or_false] at hr
            refine ⟨fun e => ?_, fun e => ?_⟩
            · rw [e, rR] at rr; have h3 := Option.some.inj rr
              rcases hr with rfl | rfl | rfl <;> (injection h3 with _ h4; exact absurd h4 (by decide))
            · rw [e, rS] at rr; have h3 := Option.some.inj rr
              rcases hr with rfl | rfl | rfl <;> (injection h3 with _ h4; exact absurd h4 (by decide))
        have ht0 : TwoE q W R [] S [] (lt ++ (tbx K ++ [(q + 2, Obj.cells (VI .u8 tg) 27), (q + 1, Obj.cells (VI .u8 two) 23), (q, .cells (VI .u8 one) 23)])) wr := two_new (l' := []) (hev.sub (fun p hp => by
          simp only [List.mem_append, List.mem_cons] at hp ⊢
          rcases hp with hp | hp | hp | hp | hp
          · exact .inr (.inr (.inr (.inl hp)))
          · exact .inr (.inr (.inl hp))
          · exact .inl hp
          · exact .inr (.inl hp)
          · exact .inr (.inr (.inr (.inr hp))))) (Nat.ne_of_lt HRS.out) hrec
        have HPT : Hid (PSrc q W (lt ++ (tbx K ++ [(q + 2, Obj.cells (VI .u8 tg) 27), (q + 1, Obj.cells (VI .u8 two) 23), (q, .cells (VI .u8 one) 23)])) au i (K.map Prod.snd) ∧ BytL (K.map Prod.snd) ∧ (K.map Prod.snd).map List.length = Ds.map List.length ∧ (K.map Prod.snd).flatten.length = Ds.flatten.length) := ⟨hPT, hK2, hlens, hflat⟩
        obtain ⟨OL, hOL⟩ : ∃ OL, olg (Ds.map List.length) = OL := ⟨_, rfl⟩
        have HOL : Hid (olg (Ds.map List.length) = OL ∧ OL.length ≤ 200000 ∧ 2 ≤ OL.length) := ⟨hOL, by
          rw [← hOL]
          have := olg_len (Ds.map List.length)
          rw [← flat_len, List.length_map, HK.out.2.2.2.1] at this
          have := HN.out.1
          have := HN.out.2.1
          omega, by
          rw [← hOL]
          have := olg_two (Ds.map List.length)
          omega⟩
        have HLR : Hid (∀ l r m s V, TwoE q W l r m s (lt ++ (tbx K ++ [(q + 2, Obj.cells (VI .u8 tg) 27), (q + 1, Obj.cells (VI .u8 two) 23), (q, .cells (VI .u8 one) 23)])) V → V.rangeAt q 0 (one.map (Value.int .u8)) ∧ V.rangeAt (q + 1) 0 (two.map (Value.int .u8)) ∧ V.rangeAt (q + 2) 0 (tg.map (Value.int .u8))) := fun l r m s V h => ⟨row_range (h.row (List.mem_append_right _ (List.mem_append_right _ mem2))), row_range (h.row (List.mem_append_right _ (List.mem_append_right _ mem1))), row_range (h.row (List.mem_append_right _ (List.mem_append_right _ mem0)))⟩
        have hc1 := TwoE.of (cap := cap) ht0 HK.out.1 (HS.out _) HK.out.2.2.1 (by have := HN.out.1; have := HN.out.2.1; simp only [List.length_nil]; omega)
        rw [hOL, List.nil_append] at hc1
        have C1 : Hid _ := hc1
        have L1 : Hid _ := HLR.out _ _ _ _ _ ht0
        clear hc1 ht0 hrec hPT hK2 hK1 hlens hflat hev hdis hL hOL hKl
        go_upto_region 17 with (first | (go_at_call 6; refine Calls.mono C1.out ?_; rintro e W1 ⟨x1, rfl, h1⟩; have H1 : Hid _ := h1; clear h1 C1) | (with_reducible refine at_list ?_; first | (refine load_midI rfl 23 (.tmp 5) rfl q 0 rfl .u8 one _ L1.out.1 Try.underlying23 rfl HJ1.out ?_)))
        have L2 : Hid _ := HLR.out _ _ _ _ _ H1.out
        have hc2 := TwoE.of (cap := cu) (TwoE.swap H1.out) HK.out.2.1 HPT.out.1 HPT.out.2.1 (by rw [HPT.out.2.2.2]; have := HN.out.1; have := HN.out.2.1; simp only [List.length_nil]; omega)
        rw [HPT.out.2.2.1, HOL.out.1, List.nil_append] at hc2
        have C2 : Hid _ := hc2
        clear hc2 H1 L1
        go_upto_region 18 with (first | (go_at_call 6; refine Calls.mono C2.out ?_; rintro e W2 ⟨x2, rfl, h2⟩; have H2 : Hid _ := h2; clear h2 C2) | (with_reducible refine at_list ?_; first | (refine load_midI rfl 23 (.tmp 6) rfl (q + 1) 0 rfl .u8 two _ L2.out.2.1 Try.underlying23 rfl HJ2.out ?_)))
        have hc3 := TwoE.same (TwoE.swap H2.out) (by have := HOL.out.2.1; omega)
        rw [beq_self_eq_true] at hc3
        have C3 : Hid _ := hc3
        clear hc3 H2 L2
        go_upto_region 20 with (first | (go_at_call 10; refine Calls.mono C3.out ?_; rintro e W3 ⟨rfl, h3⟩; have H3 : Hid _ := h3; clear h3 C3))
        obtain ⟨N, hN⟩ : ∃ N, OL.length = N := ⟨_, rfl⟩
        have hc4 := TwoE.total H3.out
        rw [hN] at hc4
        have C4 : Hid _ := hc4
        have HNN : Hid (OL.length = N) := hN
        clear hc4 hN
        go_upto_region 21 with (first | (go_at_call 11; refine Calls.mono C4.out ?_; rintro e V4 ⟨rfl, hV⟩; obtain rfl := hV; clear C4))
        obtain ⟨a1, ha1⟩ : ∃ a1, decide (mtag one Ds.flatten = tg) = a1 := ⟨_, rfl⟩
        obtain ⟨b1', hb1⟩ : ∃ b1, decide (mtag two (K.map Prod.snd).flatten = tg) = b1 := ⟨_, rfl⟩
        have L3 : Hid _ := HLR.out _ _ _ _ _ H3.out
        have hc5 := TwoE.check (cap := cap) H3.out HK.out.1 HK.out.2.2.2.2.1 (HS.out _) HK.out.2.2.1 (by have := HN.out.1; have := HN.out.2.1; have := HOL.out.2.1; omega)
        rw [ha1, HOL.out.1] at hc5
        have C5 : Hid _ := hc5
        clear hc5 H3 ha1
        go_upto_region 22 with (first | (go_at_call 7; refine Calls.mono C5.out ?_; rintro e W5 ⟨rfl, h5⟩; have H5 : Hid _ := h5; clear h5 C5) | (with_reducible refine at_list ?_; first | (refine load_midI rfl 23 (.tmp 5) rfl q 0 rfl .u8 one _ L3.out.1 Try.underlying23 rfl HJ1.out ?_) | (refine load_midI rfl 27 (.tmp 9) rfl (q + 2) 0 rfl .u8 tg _ L3.out.2.2 Try.underlying27 rfl HJT.out ?_)))
        have L5 : Hid _ := HLR.out _ _ _ _ _ H5.out
        have hc6 := TwoE.check (cap := cu) (TwoE.swap H5.out) HK.out.2.1 HK.out.2.2.2.2.1 HPT.out.1 HPT.out.2.1 (by rw [HPT.out.2.2.2]; have := HN.out.1; have := HN.out.2.1; have := HOL.out.2.1; omega)
        rw [hb1, HPT.out.2.2.1, HOL.out.1] at hc6
        have C6 : Hid _ := hc6
        clear hc6 H5 hb1 L3
        go_upto_region 23 with (first | (go_at_call 7; refine Calls.mono C6.out ?_; rintro e W6 ⟨rfl, h6⟩; have H6 : Hid _ := h6; clear h6 C6) | (with_reducible refine at_list ?_; first | (refine load_midI rfl 23 (.tmp 6) rfl (q + 1) 0 rfl .u8 two _ L5.out.2.1 Try.underlying23 rfl HJ2.out ?_) | (refine load_midI rfl 27 (.tmp 9) rfl (q + 2) 0 rfl .u8 tg _ L5.out.2.2 Try.underlying27 rfl HJT.out ?_)))
        have hc7 := TwoE.runs (TwoE.swap H6.out) (by have := HOL.out.2.1; simp only [List.length_append, List.length_cons, List.length_nil]; omega) (by simp only [List.length_append, List.length_cons, List.length_nil]; omega)
        have C7 : Hid _ := hc7
        clear hc7 H6 L5
        go_upto_region 24 with (first | (go_at_call 12; refine Calls.mono C7.out ?_; rintro e W7 ⟨ar, kr, cr, rfl, h7⟩; have H7 : Hid _ := h7; clear h7 C7))
        have hc8 := TwoE.total H7.out
        have hlen : ((OL ++ OL ++ [ifl a1]).length : Int) = 2 * (N : Int) + 1 := by
          rw [← HNN.out]; simp only [List.length_append, List.length_cons, List.length_nil]; omega
        rw [hlen] at hc8
        have C8 : Hid _ := hc8
        have hc9 := TwoE.same H7.out (by have := HOL.out.2.1; simp only [List.length_append, List.length_cons, List.length_nil]; omega)
        have heq : ((OL ++ OL ++ [ifl a1]) == (OL ++ OL ++ [ifl b1'])) = (a1 == b1') := by
          rw [Bool.eq_iff_iff, beq_iff_eq, beq_iff_eq]
          refine ⟨fun h => ?_, fun h => by rw [h]⟩
          have := List.append_cancel_left h
          revert this
          cases a1 <;> cases b1' <;> decide
        rw [heq] at hc9
        have H7' : Hid (Below q W W7 ∧ q ≤ W7.heap.size) := ⟨TwoE.old H7.out, TwoE.le H7.out⟩
        have n1 : ¬ (N : Int) < 2 := by have := HOL.out.2.2; rw [HNN.out] at this; omega
        have nb : N ≤ 200000 := by rw [← HNN.out]; exact HOL.out.2.1
        have HKN : Hid (∀ Y, Calls Try.prog 8 #[] Y fun e w' => e = .returned (.bool true) ∧ Below Y.heap.size Y w') := known_any
        have C9 : Hid _ := hc9
        clear hc8 hc9 heq hlen H7
        go_upto_region 26 with (first | (go_at_call 11; refine Calls.mono C8.out ?_; rintro e V8 ⟨rfl, hV⟩; obtain rfl := hV; clear C8))
        cases a1 <;> cases b1'
        all_goals
          first | (have C10 : Hid (Calls Try.prog 10 #[.pointer (some ⟨R, 0, none⟩), .pointer (some ⟨S, 0, none⟩)] V8 fun e w' => e = .returned (.bool true) ∧ Below q W w' ∧ q ≤ w'.heap.size) := Calls.mono C9.out (fun e w' h => ⟨h.1, TwoE.old h.2, TwoE.le h.2⟩)) | (have C10 : Hid (Calls Try.prog 10 #[.pointer (some ⟨R, 0, none⟩), .pointer (some ⟨S, 0, none⟩)] V8 fun e w' => e = .returned (.bool false) ∧ Below q W w' ∧ q ≤ w'.heap.size) := Calls.mono C9.out (fun e w' h => ⟨h.1, TwoE.old h.2, TwoE.le h.2⟩))
          clear C9
          go_wp2_with (first | (go_at_call 10; refine Calls.mono C10.out ?_; rintro e W9 ⟨rfl, h9, h9'⟩; have H9 : Hid (Below q W W9 ∧ q ≤ W9.heap.size) := ⟨h9, h9'⟩; clear h9 h9' C10) | (go_at_call 8; refine Calls.mono (HKN.out _) ?_; rintro e Y5 ⟨rfl, hb9⟩))
          go_ret
          exact ⟨rfl, H9.out.1.trans (hb9.mono H9.out.2)⟩
theorem open_rbm {H : Type} {enc : TypeId × Value → H} {W : World} {a : Option Addr} {len cap : Nat} {d : DataW H} {p : List MemPlace}
    (h : DataW.Trod enc Try.prog W 0 (fun _ => true) true 32 (.slice a len cap) d p) : ∃ D : List Int, D.length = len ∧ Byt D ∧ RdB W (.slice a len cap) D ∧ D.length ≤ maxLen := by
  obtain ⟨fuel, hf⟩ := h
  obtain ⟨v, D, hc, hr, hb, hm⟩ := open_cells hf
  have e : v = .slice a len cap := by simp [Value.cells] at hc; exact hc.symm
  subst e
  obtain ⟨a', c', e2, _⟩ := id hr
  injection e2 with _ e3 _
  exact ⟨D, e3.symm, hb, hr, hm⟩
end Go.Proofs.Ytgfamcadgahiiab
