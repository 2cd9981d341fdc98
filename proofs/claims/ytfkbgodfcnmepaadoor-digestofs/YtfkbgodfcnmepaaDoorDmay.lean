import Derived.SizedLaws
import Derived.Test.YtfkbgodfcnmepaaDoorDmax
import Derived.Test.YtfkbgodfcnmepaaDoorDmak
namespace Go.Proofs.YtfkbgodfcnmepaaDoor
set_option linter.unusedSimpArgs false
set_option linter.unusedVariables false
open Go.ChangeShapes Go.WideShapes Go.ChangeAt Go.RowKit Go.Pin Go.Str Go.Dig
theorem PSrc.at_ {B : Nat} {w : World} {bx : List (Nat × Obj)} {a : Option Addr} {n : Nat} {Ds : List (List Int)} (h : PSrc B w bx a n Ds) {rv : Value} {l : List (Int × Int)} {Y : World} (he : Ev B w rv l bx Y) : ∀ cx, PSrc Y.heap.size Y cx a n Ds := fun cx => by
  refine ⟨h.1, fun j hj => ?_⟩
  obtain ⟨b, o, u, h1, h2, h3⟩ := h.2 j hj
  refine ⟨b, o, u, h1, fun Z hZ _ => h2 Z (he.old.trans (hZ.mono he.le)) (fun r hr => ?_), h3.at_ he cx⟩
  rw [hZ.block r.1 (heap_lt (he.at' r hr))]
  exact he.at' r hr
theorem TL.lensQ {B : Nat} {w : World} {rv : Value} {l : List (Int × Int)} {bx : List (Nat × Obj)} {xs ys : List Value} {v u : Value} {W : World} (h : TL B w rv l bx xs ys v u W) {a : Option Addr} {n cap : Nat} {Ds : List (List Int)} (hDn : Ds.length = n) (hP : ∀ b, PSrc B w b a n Ds) (hn : n ≤ 1000) :
    Calls Tryd.prog 30 #[.slice a n cap] W fun e w' => ∃ vl, e = .returned vl ∧ Below W.heap.size W w' ∧ ∃ al cl, vl = .slice al n cl ∧ RdN w' al (Ds.map List.length) := by
  refine (lens_any (cap := cap) (ev_nil' W) ((hP bx).at_ h.ev []) hn).mono ?_
  rintro e w' ⟨vl, rfl, hL⟩
  exact ⟨vl, rfl, hL.ev.old, hL.rdn hDn⟩
theorem rbx_mem {K : List (Nat × List Int)} {i : Nat} (hi : i < K.length) : ((K[i]).1, Obj.cells (VI .u8 (room (K[i]).2)) 5) ∈ rbx K := List.mem_map.2 ⟨K[i], List.getElem_mem hi, rfl⟩
set_option maxRecDepth 100000 in
set_option maxHeartbeats 40000000 in
theorem ofs_walk (Ds : List (List Int)) (hD : BytL Ds) (a : Option Addr) (cap : Nat) (W : World) (hR : PRd W a Ds) (hm : Ds.length ≤ maxLen) (hz : ∀ D ∈ Ds, D.length ≤ 140737488355328) (hB : Beg W) (hE : ∃ a, W.cell? ⟨0, 0, none⟩ = some (.iface 120 (.pointer (some a)))) :
    Calls Tryd.prog 5 #[.slice a Ds.length cap] W fun e w' => e = .returned (.bool true) ∧ Below W.heap.size W w' := by
  obtain ⟨q, hq⟩ : ∃ q, W.heap.size = q := ⟨_, rfl⟩
  obtain ⟨n, hn⟩ : ∃ n, Ds.length = n := ⟨_, rfl⟩
  have hsrc : ∀ b, PSrc q W b a n Ds := fun b => by rw [← hq, ← hn]; exact hR.src hm b
  have e1 := ev_nil' W
  rw [hq] at e1 ⊢
  rw [hn]
  have HS : Hid (∀ b, PSrc q W b a n Ds) := hsrc
  have HK : Hid (BytL Ds ∧ Ds.length = n) := ⟨hD, hn⟩
  have HBE : Hid (Beg W ∧ 2 ≤ q ∧ ∃ a, W.cell? ⟨0, 0, none⟩ = some (.iface 120 (.pointer (some a)))) := ⟨hB, by rw [← hq]; exact hB.2, hE⟩
  have CL : Hid _ := long_any (cap := cap) e1 (hsrc []) hz
  have E0 : Hid (Ev q W (.pointer none) [] [] W) := e1
  have HB0 : Hid (Below q W W) := Below.refl _ _
  by_cases hlg : lng Ds = true
  · rw [hlg] at CL
    clear e1 hsrc hD hR hz hm hn hB hE
    go_enter Tryd.func5, Tryd.ntmps5
    go_wp2_with (first | (go_at_call 25; refine Calls.mono CL.out ?_; rintro e V0 ⟨rfl, hV⟩; obtain rfl := hV.symm))
    go_ret
    exact ⟨rfl, HB0.out⟩
  · have hlf : lng Ds = false := by simpa using hlg
    rw [hlf] at CL
    obtain ⟨hn4, hfl⟩ := lng_false hlf
    rw [hn] at hn4
    have hD1 : ∀ D ∈ Ds, D.length ≤ 131072 := fun D hD => by
      obtain ⟨i, hi, rfl⟩ := List.mem_iff_getElem.1 hD
      have := take_sum Ds i
      rw [List.getD_eq_getElem?_getD, List.getElem?_eq_getElem hi] at this
      simp only [Option.getD_some] at this
      omega
    have HN : Hid (n ≤ 400 ∧ Ds.flatten.length ≤ 131072 ∧ ∀ D ∈ Ds, D.length ≤ 131072) := ⟨hn4, hfl, hD1⟩
    have H0 : Hid (TW q W (.pointer none) [] [] (Ds.take 0) (.slice none 0 0) (.slice none 0 0) W) := ⟨[], rfl, List.nodup_nil, (fun p hp => nomatch hp), [], [], lst_nil _ _, lst_nil _ _, e1, (fun p hp => nomatch hp), (fun p hp => nomatch hp)⟩
    clear e1 hsrc hD hR hz hm hn hn4 hfl hD1 hlg hlf hB hE hq
    go_enter Tryd.func5, Tryd.ntmps5
    go_upto_region 6 with (first | (go_at_call 25; refine Calls.mono CL.out ?_; rintro e V0 ⟨rfl, hV⟩; obtain rfl := hV.symm; clear CL))
    go_loopw [3, 4, 5, 6] (fun v u vi _ w' => ∃ i : Nat, i ≤ n ∧ vi = .int .i64 (i : Int) ∧ TW q W (.pointer none) [] [] (Ds.take i) v u w') (fun _ _ vi _ _ => n - (intOf vi).toNat)
    case atStart => exact ⟨0, Nat.zero_le _, rfl, H0.out⟩
    case round =>
      clear H0
      obtain ⟨i, hi, rfl, K, hK1, hK2, hK3, ht⟩ := hrel
      rw [List.append_nil] at ht
      by_cases hlt : i < n
      · have b1 : (i : Int) < (n : Int) := by omega
        obtain ⟨b, o, y, rfl, hcu, hsu⟩ := (HS.out []).2 i hlt
        have hev := ht.ev
        have c1 := hcu wr hev.old (fun q hq => nomatch hq)
        obtain ⟨D, hD⟩ : ∃ D, Ds.getD i [] = D := ⟨_, rfl⟩
        rw [hD] at hsu
        obtain ⟨au, cu, rfl, hle, hrr⟩ := id hsu
        obtain ⟨m, hm⟩ : ∃ m, D.length = m := ⟨_, rfl⟩
        have hm1 : m ≤ 131072 := by
          rw [← hm, ← hD, List.getD_eq_getElem?_getD, List.getElem?_eq_getElem (by rw [HK.out.2]; exact hlt)]
          exact HN.out.2.2 _ (List.getElem_mem _)
        rw [hm] at c1 hsu hcu
        have CR := roomy_any wr D au m cu (hev.rb (hsu.sub (fun p hp => nomatch hp))) hm1
        obtain ⟨g, hg⟩ : ∃ g, wr.heap.size = g := ⟨_, rfl⟩
        rw [hg] at CR
        have CR : Hid _ := CR
        have HT := ht.hid
        have HKK : Hid (K.map Prod.snd = Ds.take i ∧ (K.map Prod.fst).Nodup ∧ K.length = i ∧ wr.heap.size = g) := ⟨hK1, hK2, by
          have := congrArg List.length hK1
          rw [List.length_map, List.length_take, HK.out.2] at this
          omega, hg⟩
        have HM : Hid (D.length = m ∧ Ds.getD i [] = D ∧ i < n ∧ n ≤ 400 ∧ m ≤ 131072) := ⟨hm, hD, hlt, HN.out.1, hm1⟩
        have HCU : Hid (∀ Y, Below q W Y → Y.cell? ⟨b, o + i, none⟩ = some (.slice au m cu)) := fun Y h1 => hcu Y h1 (fun q hq => nomatch hq)
        have hpre := fun w => run_preS w g m (m + 70) (m + 70) (m : Int) rfl (by omega) (by omega)
        clear hcu hsu hle hrr hD hm hm1 hev ht hK1 hK2 hK3 hi hg
        go_upto_region 9 with (first | (go_at_call 10; refine Calls.mono CR.out ?_; rintro e W2 ⟨rfl, h2⟩; have H3 := (HT.out.box (by rw [HKK.out.2.2.2]; exact h2.old) (by rw [HKK.out.2.2.2]; exact Nat.le_refl _) (h2.row mem0)).hid; clear h2 CR))
        have HAP : Hid _ := fun ty => TL.app H3.out (a := some ⟨g, 0, none⟩) (m := m + 70) (c := m + 70) (by rw [List.length_map, HKK.out.2.2.1]; have := HM.out.2.2.1; have := HM.out.2.2.2.1; omega) ty
        go_upto_region 10 with (first | (at_builtin; refine wpList_app _ rfl (.tmp 25) (.tmp 27) 51 51 rfl _ _ rfl rfl HAP.out ?_; intro v5 w5 h5; have H5 := TL.hid h5; clear h5 HAP H3))
        have c5 := HCU.out w5 (TL.ev H5.out).old
        have HAQ : Hid _ := fun ty => TL.app (TL.swap H5.out) (a := some ⟨g, 0, none⟩) (m := m) (c := m + 70) (by rw [List.length_map, HKK.out.2.2.1]; have := HM.out.2.2.1; have := HM.out.2.2.2.1; omega) ty
        go_wp2_with (first | (at_builtin; refine wpList_app _ rfl (.tmp 29) (.tmp 37) 51 51 rfl _ _ rfl rfl HAQ.out ?_; intro v6 w6 h6; have H6 := TL.hid h6; clear h6 HAQ))
        go_roundw
        case rel =>
          refine ⟨i + 1, HM.out.2.2.1, by rw [wrapS HM.out.2.2.1 (by have := HM.out.2.2.2.1; unfold maxLen; omega)]; exact congrArg (Value.int .i64) (by omega), K ++ [(g, D)], ?_, ?_, ?_, ?_⟩
          · rw [List.map_append, HKK.out.1, take_snocL Ds i (by rw [HK.out.2]; exact HM.out.2.2.1), HM.out.2.1]
            rfl
          · rw [List.map_append]
            refine List.nodup_append.2 ⟨HKK.out.2.1, by simp, fun x hx y hy => ?_⟩
            simp only [List.mem_map] at hx
            obtain ⟨p, hp, rfl⟩ := hx
            have hy' : y = g := by simpa using hy
            have := heap_lt (HT.out.ev.at' (p.1, Obj.cells (VI .u8 (room p.2)) 5) (List.mem_map.2 ⟨p, hp, rfl⟩))
            have := HKK.out.2.2.2
            omega
          · intro p hp r hr
            exact nomatch hr
          · have e1 : (K ++ [(g, D)]).map whl = K.map whl ++ [.slice (some ⟨g, 0, none⟩) (m + 70) (m + 70)] := by rw [List.map_append, ← HM.out.1]; rfl
            have e2 : (K ++ [(g, D)]).map prt = K.map prt ++ [.slice (some ⟨g, 0, none⟩) m (m + 70)] := by rw [List.map_append, ← HM.out.1]; rfl
            rw [e1, e2]
            refine TL.perm (TL.swap H6.out) (fun p hp => ?_)
            simp only [rbx, List.map_append, List.map_cons, List.map_nil, List.mem_append, List.mem_cons, List.not_mem_nil, or_false] at hp ⊢
            rcases hp with hp | hp
            · exact .inr hp
            · exact .inl hp
        case measure => exact measS HM.out.2.2.1 (by have := HM.out.2.2.2.1; unfold maxLen; omega)
      · have b1 : ¬ (i : Int) < (n : Int) := by omega
        have et : Ds.take i = Ds := List.take_of_length_le (by rw [HK.out.2]; omega)
        rw [et] at hK1
        have HKK : Hid (K.map Prod.snd = Ds ∧ (K.map Prod.fst).Nodup ∧ K.length = n) := ⟨hK1, hK2, by rw [← HK.out.2, ← hK1, List.length_map]⟩
        have ht2 := ht.withRec
        obtain ⟨R, hRR⟩ : ∃ R, wr.heap.size = R := ⟨_, rfl⟩
        have CN : Hid (Calls Tryd.prog 9 #[] wr fun e w' => e = .returned (.pointer (some ⟨R, 0, none⟩)) ∧ w' = wr.alloc (.cells #[.slice none 0 0, .int .i64 0] 76)) := by
          have := new_any wr
          rw [hRR] at this
          exact this
        obtain ⟨W2, hW2⟩ : ∃ V, wr.alloc (.cells #[.slice none 0 0, .int .i64 0] 76) = V := ⟨_, rfl⟩
        rw [hW2, hRR] at ht2
        rw [hW2] at CN
        have hof := ht2.of (fun p hp => hp) (by rw [hK1]; exact HK.out.1) (by rw [HKK.out.2.2]; have := HN.out.1; omega) HBE.out.1 HBE.out.2.1 (by rw [hK1]; have := HN.out.2.1; omega) (fun _ => by rw [HKK.out.2.2, hK1]; have := HN.out.1; have := HN.out.2.1; simp only [List.length_nil]; omega)
        rw [hK1] at hof
        obtain ⟨T, hT⟩ : ∃ T, dig 32 [] Ds.flatten = T := ⟨_, rfl⟩
        obtain ⟨OL, hOL⟩ : ∃ OL, [] ++ olg (Ds.map List.length) = OL := ⟨_, rfl⟩
        rw [hT, hOL] at hof
        have CO : Hid _ := hof
        have HT : Hid (dig 32 [] Ds.flatten = T ∧ olg (Ds.map List.length) = OL ∧ T.length = 32) := ⟨hT, by rw [List.nil_append] at hOL; exact hOL, by rw [← hT]; exact dig_len _ _ _⟩
        have HIT : Hid ((Tryd.prog.info? 54).map (·.size) = some (VI .u8 T).size) := by
          have : (Tryd.prog.info? 54).map (·.size) = some (VI .u8 T).size := by rw [VI_size, HT.out.2.2]; exact infoK
          exact this
        have HST : Hid ((VI .u8 (List.replicate 32 0)).size = (VI .u8 T).size) := by
          have : (VI .u8 (List.replicate 32 0)).size = (VI .u8 T).size := by rw [VI_size, VI_size, HT.out.2.2]; rfl
          exact this
        have HOL : Hid (OL.length ≤ 300000) := by
          have h1 := olg_len (Ds.map List.length)
          rw [← flat_len, List.length_map, HK.out.2, HT.out.2.1] at h1
          have := HN.out.1
          have := HN.out.2.1
          have : OL.length ≤ 300000 := by omega
          exact this
        clear ht ht2 hof hK1 hK2 hK3 hT hOL hRR hW2 et hi hlt
        go_upto_region 13 with (first | (go_at_call 9; refine Calls.mono CN.out ?_; rintro e V1 ⟨rfl, hV⟩; obtain rfl := hV; clear CN) | (go_at_call 26; refine Calls.mono CO.out ?_; rintro e W3 ⟨rfl, h3⟩; have H3 := TL.hid h3; clear h3 CO) | (with_reducible refine at_list ?_; first | (refine hold_store 54 (.tmp 8) (.tmp 42) rfl ?_)))
        refine store_row_new rfl 54 (.tmp 8) (.tmp 42) rfl W3.heap.size (VI .u8 T) rfl rfl rfl 54 (VI .u8 (List.replicate 32 0)) HIT.out HST.out (VI_one _ _) ?_
        have hbx := TL.box H3.out (W' := W3.alloc (kz T)) ((Below.refl _ _).alloc (Nat.le_refl _) _) (Nat.le_refl _) (heap_alloc_new W3 _)
        obtain ⟨p8, hp8⟩ : ∃ p, W3.heap.size = p := ⟨_, rfl⟩
        obtain ⟨W4, hW4⟩ : ∃ V, W3.alloc (kz T) = V := ⟨_, rfl⟩
        rw [hW4, hp8] at hbx
        rw [show W3.alloc (.cells (VI .u8 T) 54) = W4 from hW4, hp8]
        have H4 := TL.hid hbx
        clear hbx hp8 hW4 H3
        obtain ⟨a1, c1, a2, c2, rfl, rfl, hcl⟩ := H4.out.cells HKK.out.2.2
        have HCC : Hid _ := hcl
        clear hcl
        go_upto_region 13 with fail
        refine wp_as (c' := rgOf13) (by kernel_rfl) ?_
        refine Of13 (R := R) (p8 := p8) (T := T) (pv := .slice a n cap) (R0 := fun Y => TL q W (.pointer (some ⟨R, 0, none⟩)) OL ((p8, kz T) :: rbx K) (K.map whl) (K.map prt) (.slice a1 n c1) (.slice a2 n c2)  Y) (R1 := fun vj Y => TL q W (.pointer (some ⟨R, 0, none⟩)) OL ((p8, kz T) :: rbx K) (K.map whl) (K.map prt) (.slice a1 n c1) (.slice a2 n c2)  Y ∧ ∀ cx, Src Y.heap.size Y cx vj Ds.flatten) (R2 := fun _ Y => TL q W (.pointer (some ⟨R, 0, none⟩)) OL ((p8, kz T) :: rbx K) (K.map whl) (K.map prt) (.slice a1 n c1) (.slice a2 n c2)  Y) (R3 := fun _ ue Y => TL q W (.pointer (some ⟨R, 0, none⟩)) OL ((p8, kz T) :: rbx K) (K.map whl) (K.map prt) (.slice a1 n c1) (.slice a2 n c2)  Y ∧ ∃ B', Y.ownsRow B' 82 2 ue OL.length (evC OL)) (R4 := fun _ ue vl Y => (TL q W (.pointer (some ⟨R, 0, none⟩)) OL ((p8, kz T) :: rbx K) (K.map whl) (K.map prt) (.slice a1 n c1) (.slice a2 n c2)  Y ∧ ∃ B', Y.ownsRow B' 82 2 ue OL.length (evC OL)) ∧ ∃ al cl, vl = .slice al n cl ∧ RdN Y al (Ds.map List.length)) (R5 := fun _ ue _ ul Y => (TL q W (.pointer (some ⟨R, 0, none⟩)) OL ((p8, kz T) :: rbx K) (K.map whl) (K.map prt) (.slice a1 n c1) (.slice a2 n c2)  Y ∧ ∃ B', Y.ownsRow B' 82 2 ue OL.length (evC OL)) ∧ ∃ B', Y.ownsRow B' 82 2 ul OL.length (evC OL)) (R6 := fun _ _ _ _ Y => TL q W (.pointer (some ⟨R, 0, none⟩)) OL ((p8, kz T) :: rbx K) (K.map whl) (K.map prt) (.slice a1 n c1) (.slice a2 n c2)  Y)
          HT.out.2.2 rfl rfl rfl rfl (TL.below H4.out (below_drew _)) (fun Y h => row_range (TL.ev h |>.row mem0)) (fun _ Y h => row_range (TL.ev h.1 |>.row mem0)) (fun _ Y h => row_range (TL.ev h |>.row mem0)) (fun _ _ Y h => row_range (TL.ev h.1 |>.row mem0)) (fun _ _ _ Y h => row_range (TL.ev h.1.1 |>.row mem0)) (fun _ _ _ _ Y h => row_range (TL.ev h.1.1 |>.row mem0)) (fun _ _ _ _ Y h => row_range (TL.ev h |>.row mem0)) ?_ ?_ ?_ ?_ ?_ ?_ (fun _ _ d _ _ h => by cases d <;> exact h) ?_
        · exact fun Y h => TL.joinP h HS.out (by have := HN.out.1; omega) HN.out.2.1
        · exact fun vj Y h => (rhash_any Y Ds.flatten HK.out.1.flat (by have := HN.out.2.1; omega) vj (h.2 [])).mono (fun e w' hh => ⟨by rw [hh.1, HT.out.1], TL.below h.1 hh.2⟩)
        · exact fun _ Y h => (v_events (TL.ev h) (by have := HOL.out; omega)).mono (fun e w' hh => by
            obtain ⟨u, rfl, ho, hb⟩ := hh
            exact ⟨u, rfl, TL.below h hb, _, ho⟩)
        · exact fun _ ue Y h => (TL.lensQ h.1 HK.out.2 HS.out (by have := HN.out.1; omega)).mono (fun e w' hh => by
            obtain ⟨vl, rfl, hb, hr⟩ := hh
            obtain ⟨B', ho⟩ := h.2
            exact ⟨vl, rfl, ⟨TL.below h.1 hb, B', owns_below ho hb⟩, hr⟩)
        · intro _ ue vl Y h
          obtain ⟨⟨h1, B', ho⟩, al, cl, rfl, hr⟩ := h
          refine (ehash_any Y (Ds.map List.length) al cl n (by rw [List.length_map]; exact HK.out.2) hr (by have := HN.out.1; omega) (by rw [← flat_len]; exact HN.out.2.1)).mono ?_
          rintro e w' ⟨ul, rfl, he⟩
          rw [HT.out.2.1] at he
          exact ⟨ul, rfl, ⟨TL.below h1 he.old, B', owns_below ho he.old⟩, _, he.own⟩
        · intro _ ue _ ul Y h
          obtain ⟨⟨h1, B1, o1⟩, B2, o2⟩ := h
          exact (same_own o1 o2 (by have := HOL.out; omega)).mono (fun e w' hh => ⟨hh.1, TL.below h1 hh.2⟩)
        intro vj ue vl ul Y hY
        have H5 : Hid (TL q W (.pointer (some ⟨R, 0, none⟩)) OL ((p8, kz T) :: rbx K) (K.map whl) (K.map prt) (.slice a1 n c1) (.slice a2 n c2)  Y) := hY
        clear hY H4
        simp only [Act.put, List.setIfInBounds_toArray, List.set_cons_zero, List.set_cons_succ]
        go_upto_region 16 with fail
        go_loopw [9] (fun vi w' => ∃ i : Nat, i ≤ n ∧ vi = .int .i64 (i : Int) ∧ TL q W (.pointer (some ⟨R, 0, none⟩)) OL ((p8, kz T) :: rbx K) (K.map whl) (K.map prt) (.slice a1 n c1) (.slice a2 n c2)  w') (fun vi _ => n - (intOf vi).toNat)
        case atStart => exact ⟨0, Nat.zero_le _, rfl, H5.out⟩
        case round =>
          clear H5
          obtain ⟨i, hi, rfl, ht⟩ := hrel
          have HT5 := TL.hid ht
          by_cases hlt : i < n
          · have b2 : (i : Int) < (n : Int) := by omega
            obtain ⟨g1, g2, rfl, rfl, hcl⟩ := HCC.out i (by rw [HKK.out.2.2]; exact hlt)
            obtain ⟨b, o, y, rfl, hcu, hsu⟩ := (HS.out []).2 i hlt
            have hiK : i < K.length := by rw [HKK.out.2.2]; exact hlt
            have hDi : Ds.getD i [] = (K[i]).2 := by rw [← HKK.out.1, List.getD_eq_getElem?_getD, List.getElem?_map, List.getElem?_eq_getElem hiK]; rfl
            have hgm := rbx_mem hiK
            obtain ⟨⟨g, D⟩, hgD⟩ : ∃ p, K[i] = p := ⟨_, rfl⟩
            rw [hgD] at hDi hcl hgm
            rw [hDi] at hsu
            obtain ⟨ap, cp, rfl, _, _⟩ := id hsu
            obtain ⟨m, hm⟩ : ∃ m, D.length = m := ⟨_, rfl⟩
            have hmD : D ∈ Ds := by rw [← HKK.out.1]; exact List.mem_map.2 ⟨(g, D), by rw [← hgD]; exact List.getElem_mem hiK, rfl⟩
            have HML : Hid (m ≤ 131072) := by
              have : m ≤ 131072 := by rw [← hm]; exact HN.out.2.2 D hmD
              exact this
            have HGM : Hid ((g, Obj.cells (VI .u8 (room D)) 5) ∈ ((p8, kz T) :: rbx K)) := List.mem_cons_of_mem _ hgm
            have HCL : Hid (∀ Y, TL q W (.pointer (some ⟨R, 0, none⟩)) OL ((p8, kz T) :: rbx K) (K.map whl) (K.map prt) (.slice (some ⟨g1, 0, none⟩) n c1) (.slice (some ⟨g2, 0, none⟩) n c2)  Y → Y.cell? ⟨g1, i, none⟩ = some (.slice (some ⟨g, 0, none⟩) (m + 70) (m + 70)) ∧ Y.cell? ⟨g2, i, none⟩ = some (.slice (some ⟨g, 0, none⟩) m (m + 70))) := fun Z hZ => by
              have := hcl Z hZ
              rw [← hm]
              exact this
            have HCP : Hid (∀ Y, Below q W Y → Y.cell? ⟨b, o + i, none⟩ = some (.slice ap m cp)) := fun Z hZ => by
              have := hcu Z hZ (fun q hq => nomatch hq)
              rw [hm] at this
              exact this
            have HDS : Hid (∀ bx, Src q W bx (.slice ap m cp) D) := fun bx => by
              have := hsu.sub (by' := bx) (fun p hp => nomatch hp)
              rw [hm] at this
              exact this
            have HRM : Hid ((room D).length = m + 70) := by
              have : (room D).length = m + 70 := by rw [room_len, hm]
              exact this
            have HII : Hid (i < n ∧ n ≤ 400) := ⟨hlt, HN.out.1⟩
            clear hcl hcu hsu hDi hgm hmD hm hgD hiK hi ht
            go_upto_region 18 with fail
            refine wp_region_quiet_in (C := fun Y => TL q W (.pointer (some ⟨R, 0, none⟩)) OL ((p8, kz T) :: rbx K) (K.map whl) (K.map prt) (.slice (some ⟨g1, 0, none⟩) n c1) (.slice (some ⟨g2, 0, none⟩) n c2)  Y) (by kernel_rfl) (by kernel_rfl) (TL.below HT5.out (below_drew _)) ?_
            refine wpQuiet_step (fun K hK => ?_)
            go_simp
            first | refine hK _ ?_ | refine ⟨_, fun _ _ => rfl, hK _ ?_⟩
            clear hK K
            try simp only [Act.put, List.getElem_toArray, List.getElem_cons_succ, List.getElem_cons_zero, List.getElem?_toArray, List.getElem?_cons_succ, List.getElem?_cons_zero, List.setIfInBounds_toArray, List.set_cons_zero, List.set_cons_succ]
            refine wpQuiet_step (fun K hK => ?_)
            go_simp
            first | refine hK _ ?_ | refine ⟨_, fun _ _ => rfl, hK _ ?_⟩
            clear hK K
            try simp only [Act.put, List.getElem_toArray, List.getElem_cons_succ, List.getElem_cons_zero, List.getElem?_toArray, List.getElem?_cons_succ, List.getElem?_cons_zero, List.setIfInBounds_toArray, List.set_cons_zero, List.set_cons_succ]
            refine wpQuiet_step (fun K hK => ?_)
            go_simp
            first | refine hK _ ?_ | refine ⟨_, fun _ _ => rfl, hK _ ?_⟩
            clear hK K
            try simp only [Act.put, List.getElem_toArray, List.getElem_cons_succ, List.getElem_cons_zero, List.getElem?_toArray, List.getElem?_cons_succ, List.getElem?_cons_zero, List.setIfInBounds_toArray, List.set_cons_zero, List.set_cons_succ]
            refine wpQuiet_step (fun K hK => ?_)
            refine if_pos_mpr (by kernel_rfl) ⟨.slice (some ⟨g, 0, none⟩) (m + 70) (m + 70), fun Y hY => ?_, hK _ ?_⟩
            · have cY := (HCL.out Y hY).1
              go_simp
            clear hK K
            try simp only [Act.put, List.getElem_toArray, List.getElem_cons_succ, List.getElem_cons_zero, List.getElem?_toArray, List.getElem?_cons_succ, List.getElem?_cons_zero, List.setIfInBounds_toArray, List.set_cons_zero, List.set_cons_succ]
            refine wpQuiet_step (fun K hK => ?_)
            go_simp
            first | refine hK _ ?_ | refine ⟨_, fun _ _ => rfl, hK _ ?_⟩
            clear hK K
            try simp only [Act.put, List.getElem_toArray, List.getElem_cons_succ, List.getElem_cons_zero, List.getElem?_toArray, List.getElem?_cons_succ, List.getElem?_cons_zero, List.setIfInBounds_toArray, List.set_cons_zero, List.set_cons_succ]
            refine wpQuiet_step (fun K hK => ?_)
            go_simp
            first | refine hK _ ?_ | refine ⟨_, fun _ _ => rfl, hK _ ?_⟩
            clear hK K
            try simp only [Act.put, List.getElem_toArray, List.getElem_cons_succ, List.getElem_cons_zero, List.getElem?_toArray, List.getElem?_cons_succ, List.getElem?_cons_zero, List.setIfInBounds_toArray, List.set_cons_zero, List.set_cons_succ]
            refine wpQuiet_step (fun K hK => ?_)
            go_simp
            first | refine hK _ ?_ | refine ⟨_, fun _ _ => rfl, hK _ ?_⟩
            clear hK K
            try simp only [Act.put, List.getElem_toArray, List.getElem_cons_succ, List.getElem_cons_zero, List.getElem?_toArray, List.getElem?_cons_succ, List.getElem?_cons_zero, List.setIfInBounds_toArray, List.set_cons_zero, List.set_cons_succ]
            refine wpQuiet_step (fun K hK => ?_)
            refine if_pos_mpr (by kernel_rfl) ⟨.slice ap m cp, fun Y hY => ?_, hK _ ?_⟩
            · have cY := HCP.out Y (TL.ev hY).old
              go_simp
            clear hK K
            try simp only [Act.put, List.getElem_toArray, List.getElem_cons_succ, List.getElem_cons_zero, List.getElem?_toArray, List.getElem?_cons_succ, List.getElem?_cons_zero, List.setIfInBounds_toArray, List.set_cons_zero, List.set_cons_succ]
            refine wpQuiet_step (fun K hK => ?_)
            refine if_pos_mpr (by kernel_rfl) ⟨.bool true, fun Y hY => ?_, hK _ ?_⟩
            · go_simp
              exact (stands_any Y D (some ⟨g, 0, none⟩) ap m (m + 70) (m + 70) cp (row_rd ((TL.ev hY).row HGM.out) HRM.out (Nat.le_refl _)) ((TL.ev hY).rb (HDS.out _)) HML.out).mono (fun e w' hh => ⟨hh.1, TL.below hY hh.2⟩)
            clear hK K
            try simp only [Act.put, List.getElem_toArray, List.getElem_cons_succ, List.getElem_cons_zero, List.getElem?_toArray, List.getElem?_cons_succ, List.getElem?_cons_zero, List.setIfInBounds_toArray, List.set_cons_zero, List.set_cons_succ]
            refine wpQuiet_step (fun K hK => ?_)
            go_simp
            first | refine hK _ ?_ | refine ⟨_, fun _ _ => rfl, hK _ ?_⟩
            clear hK K
            try simp only [Act.put, List.getElem_toArray, List.getElem_cons_succ, List.getElem_cons_zero, List.getElem?_toArray, List.getElem?_cons_succ, List.getElem?_cons_zero, List.setIfInBounds_toArray, List.set_cons_zero, List.set_cons_succ]
            refine wpQuiet_step (fun K hK => ?_)
            go_simp
            first | refine hK _ ?_ | refine ⟨_, fun _ _ => rfl, hK _ ?_⟩
            clear hK K
            try simp only [Act.put, List.getElem_toArray, List.getElem_cons_succ, List.getElem_cons_zero, List.getElem?_toArray, List.getElem?_cons_succ, List.getElem?_cons_zero, List.setIfInBounds_toArray, List.set_cons_zero, List.set_cons_succ]
            refine wpQuiet_step (fun K hK => ?_)
            go_simp
            first | refine hK _ ?_ | refine ⟨_, fun _ _ => rfl, hK _ ?_⟩
            clear hK K
            try simp only [Act.put, List.getElem_toArray, List.getElem_cons_succ, List.getElem_cons_zero, List.getElem?_toArray, List.getElem?_cons_succ, List.getElem?_cons_zero, List.setIfInBounds_toArray, List.set_cons_zero, List.set_cons_succ]
            refine wpQuiet_step (fun K hK => ?_)
            go_simp
            first | refine hK _ ?_ | refine ⟨_, fun _ _ => rfl, hK _ ?_⟩
            clear hK K
            try simp only [Act.put, List.getElem_toArray, List.getElem_cons_succ, List.getElem_cons_zero, List.getElem?_toArray, List.getElem?_cons_succ, List.getElem?_cons_zero, List.setIfInBounds_toArray, List.set_cons_zero, List.set_cons_succ]
            refine wpQuiet_step (fun K hK => ?_)
            go_simp
            first | refine hK _ ?_ | refine ⟨_, fun _ _ => rfl, hK _ ?_⟩
            clear hK K
            try simp only [Act.put, List.getElem_toArray, List.getElem_cons_succ, List.getElem_cons_zero, List.getElem?_toArray, List.getElem?_cons_succ, List.getElem?_cons_zero, List.setIfInBounds_toArray, List.set_cons_zero, List.set_cons_succ]
            refine wpQuiet_step (fun K hK => ?_)
            refine if_pos_mpr (by kernel_rfl) ⟨.slice (some ⟨g, 0, none⟩) m (m + 70), fun Y hY => ?_, hK _ ?_⟩
            · have cY := (HCL.out Y hY).2
              go_simp
            clear hK K
            try simp only [Act.put, List.getElem_toArray, List.getElem_cons_succ, List.getElem_cons_zero, List.getElem?_toArray, List.getElem?_cons_succ, List.getElem?_cons_zero, List.setIfInBounds_toArray, List.set_cons_zero, List.set_cons_succ]
            refine wpQuiet_step (fun K hK => ?_)
            go_simp
            first | refine hK _ ?_ | refine ⟨_, fun _ _ => rfl, hK _ ?_⟩
            clear hK K
            try simp only [Act.put, List.getElem_toArray, List.getElem_cons_succ, List.getElem_cons_zero, List.getElem?_toArray, List.getElem?_cons_succ, List.getElem?_cons_zero, List.setIfInBounds_toArray, List.set_cons_zero, List.set_cons_succ]
            refine wpQuiet_step (fun K hK => ?_)
            go_simp
            first | refine hK _ ?_ | refine ⟨_, fun _ _ => rfl, hK _ ?_⟩
            clear hK K
            try simp only [Act.put, List.getElem_toArray, List.getElem_cons_succ, List.getElem_cons_zero, List.getElem?_toArray, List.getElem?_cons_succ, List.getElem?_cons_zero, List.setIfInBounds_toArray, List.set_cons_zero, List.set_cons_succ]
            refine wpQuiet_step (fun K hK => ?_)
            go_simp
            first | refine hK _ ?_ | refine ⟨_, fun _ _ => rfl, hK _ ?_⟩
            clear hK K
            try simp only [Act.put, List.getElem_toArray, List.getElem_cons_succ, List.getElem_cons_zero, List.getElem?_toArray, List.getElem?_cons_succ, List.getElem?_cons_zero, List.setIfInBounds_toArray, List.set_cons_zero, List.set_cons_succ]
            refine wpQuiet_step (fun K hK => ?_)
            go_simp
            first | refine hK _ ?_ | refine ⟨_, fun _ _ => rfl, hK _ ?_⟩
            clear hK K
            try simp only [Act.put, List.getElem_toArray, List.getElem_cons_succ, List.getElem_cons_zero, List.getElem?_toArray, List.getElem?_cons_succ, List.getElem?_cons_zero, List.setIfInBounds_toArray, List.set_cons_zero, List.set_cons_succ]
            refine wpQuiet_step (fun K hK => ?_)
            refine if_pos_mpr (by kernel_rfl) ⟨.slice ap m cp, fun Y hY => ?_, hK _ ?_⟩
            · have cY := HCP.out Y (TL.ev hY).old
              go_simp
            clear hK K
            try simp only [Act.put, List.getElem_toArray, List.getElem_cons_succ, List.getElem_cons_zero, List.getElem?_toArray, List.getElem?_cons_succ, List.getElem?_cons_zero, List.setIfInBounds_toArray, List.set_cons_zero, List.set_cons_succ]
            refine wpQuiet_step (fun K hK => ?_)
            go_simp
            first | refine hK _ ?_ | refine ⟨_, fun _ _ => rfl, hK _ ?_⟩
            clear hK K
            try simp only [Act.put, List.getElem_toArray, List.getElem_cons_succ, List.getElem_cons_zero, List.getElem?_toArray, List.getElem?_cons_succ, List.getElem?_cons_zero, List.setIfInBounds_toArray, List.set_cons_zero, List.set_cons_succ]
            refine wpQuiet_step (fun K hK => ?_)
            go_simp
            first | refine hK _ ?_ | refine ⟨_, fun _ _ => rfl, hK _ ?_⟩
            clear hK K
            try simp only [Act.put, List.getElem_toArray, List.getElem_cons_succ, List.getElem_cons_zero, List.getElem?_toArray, List.getElem?_cons_succ, List.getElem?_cons_zero, List.setIfInBounds_toArray, List.set_cons_zero, List.set_cons_succ]
            refine wpQuiet_step (fun K hK => ?_)
            go_simp
            first | refine hK _ ?_ | refine ⟨_, fun _ _ => rfl, hK _ ?_⟩
            clear hK K
            try simp only [Act.put, List.getElem_toArray, List.getElem_cons_succ, List.getElem_cons_zero, List.getElem?_toArray, List.getElem?_cons_succ, List.getElem?_cons_zero, List.setIfInBounds_toArray, List.set_cons_zero, List.set_cons_succ]
            intro w9 h9
            have HT9 : Hid (TL q W (.pointer (some ⟨R, 0, none⟩)) OL ((p8, kz T) :: rbx K) (K.map whl) (K.map prt) (.slice (some ⟨g1, 0, none⟩) n c1) (.slice (some ⟨g2, 0, none⟩) n c2)  w9) := h9
            clear h9 HT5
            go_wp2
            go_roundw
            case rel => exact ⟨i + 1, HII.out.1, by rw [wrapS HII.out.1 (by have := HII.out.2; unfold maxLen; omega)]; exact congrArg (Value.int .i64) (by omega), HT9.out⟩
            case measure => exact measS HII.out.1 (by have := HII.out.2; unfold maxLen; omega)
          · have b2 : ¬ (i : Int) < (n : Int) := by omega
            have H13 := (TL.forget ht).hid
            clear ht HT5 hlt hi HCC
            go_upto_region 21 with fail
            go_loopw [10] (fun vi w' => ∃ i : Nat, i ≤ n ∧ vi = .int .i64 (i : Int) ∧ TL q W (.pointer none) OL ((p8, kz T) :: rbx K) (K.map whl) (K.map prt) (.slice a1 n c1) (.slice a2 n c2)  w') (fun vi _ => n - (intOf vi).toNat)
            case atStart => exact ⟨0, Nat.zero_le _, rfl, H13.out⟩
            case round =>
              clear H13
              obtain ⟨i, hi, rfl, ht⟩ := hrel
              by_cases hlt : i < n
              · have b3 : (i : Int) < (n : Int) := by omega
                obtain ⟨x1, d1, x2, d2, e1, e2, hcl⟩ := ht.cells HKK.out.2.2
                injection e1 with e11 e12 e13
                injection e2 with e21 e22x e23
                clear e12 e13 e22x e23
                have hiK : i < K.length := by rw [HKK.out.2.2]; exact hlt
                obtain ⟨g1, g2, f1, f2, hcc0⟩ := hcl i hiK
                have e22 : a2 = some ⟨g2, 0, none⟩ := e21.trans f2
                subst e22
                have hcc := (hcc0 wr ht).2
                clear hcc0
                have hgm := rbx_mem hiK
                have hKi : K[i]? = some K[i] := List.getElem?_eq_getElem hiK
                obtain ⟨⟨g, D⟩, hgD⟩ : ∃ p, K[i] = p := ⟨_, rfl⟩
                rw [hgD] at hcc hgm hKi
                have hmD : D ∈ Ds := by rw [← HKK.out.1]; exact List.mem_map.2 ⟨(g, D), by rw [← hgD]; exact List.getElem_mem hiK, rfl⟩
                have HTN := TL.hid ht
                have HII : Hid (i < n ∧ n ≤ 400) := ⟨hlt, HN.out.1⟩
                simp only [prt] at hcc
                have hDm := HN.out.2.2 D hmD
                clear e11 e21 f1 f2 hcl hgD hiK hi
                by_cases hD0 : 0 < D.length
                · have b4 : (D.length : Int) > 0 := by omega
                  have b5 : (0 : Int) < (D.length : Int) := by omega
                  have hrow := (TL.ev ht).row (List.mem_cons_of_mem _ hgm)
                  have hx0 : 0 ≤ D.getD 0 0 ∧ D.getD 0 0 < 256 := by
                    rw [List.getD_eq_getElem?_getD, List.getElem?_eq_getElem hD0]
                    exact HK.out.1 D hmD _ (List.getElem_mem _)
                  obtain ⟨y, hy1, hy2⟩ := xor_one hx0
                  have cc1 : wr.cell? ⟨g, 0, none⟩ = some (.int .u8 (D.getD 0 0)) := by
                    rw [cell_of_row wr _ _ _ _ _ hrow, VI_at _ _ _ (by rw [room_len]; omega), room_at D (by omega), rmk_in D hD0]
                  have ff1 : wr.frozen? ⟨g, 0, none⟩ = false := frozen_of_row wr _ _ _ _ hrow
                  have hlst : ((p8, kz T) :: rbx K) = [(p8, kz T)] ++ (rbx K ++ []) := by simp
                  have hT2 : TL q W (.pointer none) OL ([(p8, kz T)] ++ (rbx (kset K i y) ++ [])) (K.map whl) (K.map prt) (.slice a1 n c1) (.slice (some ⟨g2, 0, none⟩) n c2) (wr.setCell ⟨g, 0, none⟩ (.int .u8 y)) := by
                    rw [hlst] at ht
                    refine TL.upd ht hKi HKK.out.2.1 (fun r hr e => ?_) y ((Grow.refl (fun k => k = g) wr).setCell (p := ⟨g, 0, none⟩) (.inl rfl) _) ?_
                    · rw [List.append_nil, List.mem_singleton] at hr
                      subst hr
                      have h2 := (TL.ev ht).row (g := p8) (x := kz T) (List.mem_append_left _ mem0)
                      have h3 : g = p8 := e.symm
                      rw [← h3, hrow] at h2
                      injection h2 with h2
                      injection h2 with _ h4
                      exact absurd h4 (by decide)
                    · rw [heap_setCell_same wr _ _ _ _ _ hrow, ← room_set D y hD0]
                      simp [VI, List.map_set]
                  obtain ⟨x, hx⟩ : ∃ x, D.getD 0 0 = x := ⟨_, rfl⟩
                  rw [hx] at hy1 cc1
                  obtain ⟨W11, hW11⟩ : ∃ V, wr.setCell ⟨g, 0, none⟩ (.int .u8 y) = V := ⟨_, rfl⟩
                  rw [hW11] at hT2
                  have HT2 := TL.hid hT2
                  have HY : Hid (0 ≤ y ∧ y < 256) := hy2
                  clear hT2 hrow hgm hmD hx0 hx hy2 ht hlst HTN
                  have hb0 : 0 < D.length := hD0
                  go_upto_region 24 with fail
                  go_region
                  have HT3 : Hid (TL q W (.pointer none) OL ((p8, kz T) :: rbx (kset K i y)) ((kset K i y).map whl) ((kset K i y).map prt) (.slice a1 n c1) (.slice (some ⟨g2, 0, none⟩) n c2) W11.drew) := by
                    show TL _ _ _ _ _ _ _ _ _ _
                    rw [kset_whl, kset_prt]
                    refine (TL.below HT2.out (below_drew _)).perm (fun p hp => ?_)
                    simpa using hp
                  have HKB : Hid (BytL ((kset K i y).map Prod.snd) ∧ (kset K i y).length = n ∧ ((kset K i y).map Prod.snd).flatten.length ≤ 131072) := by
                    refine ⟨kset_bytL (by rw [HKK.out.1]; exact HK.out.1) _ HY.out, by rw [kset_len]; exact HKK.out.2.2, ?_⟩
                    rw [flat_len, kset_lens, HKK.out.1, ← flat_len]
                    exact HN.out.2.1
                  obtain ⟨K2, hK2⟩ : ∃ K2, kset K i y = K2 := ⟨_, rfl⟩
                  rw [hK2] at HT3 HKB
                  clear hK2 HT2 hcc cc1 ff1 hy1 hW11 hKi
                  obtain ⟨W12, hW12⟩ : ∃ V, W11.drew = V := ⟨_, rfl⟩
                  rw [hW12] at HT3 ⊢
                  clear hW12
                  have hof := TL.of HT3.out (fun p hp => List.mem_cons_of_mem _ hp) HKB.out.1 (by rw [HKB.out.2.1]; have := HN.out.1; omega) HBE.out.1 HBE.out.2.1 (by have := HKB.out.2.2; omega) (fun h => absurd rfl h)
                  obtain ⟨T2, hT2⟩ : ∃ T2, dig 32 [] (K2.map Prod.snd).flatten = T2 := ⟨_, rfl⟩
                  obtain ⟨OL2, hOL2⟩ : ∃ OL2, OL ++ olg ((K2.map Prod.snd).map List.length) = OL2 := ⟨_, rfl⟩
                  rw [hT2, hOL2] at hof
                  have CO : Hid _ := hof
                  have HT2' : Hid (dig 32 [] (K2.map Prod.snd).flatten = T2 ∧ T2.length = 32) := ⟨hT2, by rw [← hT2]; exact dig_len _ _ _⟩
                  have HIT2 : Hid ((Tryd.prog.info? 54).map (·.size) = some (VI .u8 T2).size) := by
                    have : (Tryd.prog.info? 54).map (·.size) = some (VI .u8 T2).size := by rw [VI_size, HT2'.out.2]; exact infoK
                    exact this
                  have HST2 : Hid ((VI .u8 (List.replicate 32 0)).size = (VI .u8 T2).size) := by
                    have : (VI .u8 (List.replicate 32 0)).size = (VI .u8 T2).size := by rw [VI_size, VI_size, HT2'.out.2]; rfl
                    exact this
                  clear hof hT2 hOL2
                  go_upto_region 26 with (first | (go_at_call 26; refine Calls.mono CO.out ?_; rintro e W13 ⟨rfl, h13⟩; have H13 := TL.hid h13; clear h13 CO) | (with_reducible refine at_list ?_; first | (refine hold_store 54 (.tmp 11) (.tmp 111) rfl ?_)))
                  refine store_row_new rfl 54 (.tmp 11) (.tmp 111) rfl W13.heap.size (VI .u8 T2) rfl rfl rfl 54 (VI .u8 (List.replicate 32 0)) HIT2.out HST2.out (VI_one _ _) ?_
                  have hbx := TL.box H13.out (W' := W13.alloc (kz T2)) ((Below.refl _ _).alloc (Nat.le_refl _) _) (Nat.le_refl _) (heap_alloc_new W13 _)
                  obtain ⟨p12, hp12⟩ : ∃ p, W13.heap.size = p := ⟨_, rfl⟩
                  obtain ⟨W14, hW14⟩ : ∃ V, W13.alloc (kz T2) = V := ⟨_, rfl⟩
                  rw [hW14, hp12] at hbx
                  rw [show W13.alloc (.cells (VI .u8 T2) 54) = W14 from hW14, hp12]
                  have H14 := TL.hid hbx
                  clear hbx hp12 hW14 H13 HT3
                  go_upto_region 26 with fail
                  refine wp_as (c' := rgOf26) (by kernel_rfl) ?_
                  refine Of26 (p8 := p12) (T := T2) (pv := .slice (some ⟨g2, 0, none⟩) n c2) (R0 := fun Y => TL q W (.pointer none) OL2 ((p12, kz T2) :: (p8, kz T) :: rbx K2) (K2.map whl) (K2.map prt) (.slice a1 n c1) (.slice (some ⟨g2, 0, none⟩) n c2) Y) (R1 := fun vj Y => TL q W (.pointer none) OL2 ((p12, kz T2) :: (p8, kz T) :: rbx K2) (K2.map whl) (K2.map prt) (.slice a1 n c1) (.slice (some ⟨g2, 0, none⟩) n c2) Y ∧ ∀ cx, Src Y.heap.size Y cx vj (K2.map Prod.snd).flatten) (R2 := fun _ Y => TL q W (.pointer none) OL2 ((p12, kz T2) :: (p8, kz T) :: rbx K2) (K2.map whl) (K2.map prt) (.slice a1 n c1) (.slice (some ⟨g2, 0, none⟩) n c2) Y) (R3 := fun _ Y => TL q W (.pointer none) OL2 ((p12, kz T2) :: (p8, kz T) :: rbx K2) (K2.map whl) (K2.map prt) (.slice a1 n c1) (.slice (some ⟨g2, 0, none⟩) n c2) Y)
                    HT2'.out.2 rfl rfl rfl (TL.below H14.out (below_drew _)) (fun Y h => row_range (TL.ev h |>.row mem0)) (fun _ Y h => row_range (TL.ev h.1 |>.row mem0)) (fun _ Y h => row_range (TL.ev h |>.row mem0)) (fun _ Y h => row_range (TL.ev h |>.row mem0)) ?_ ?_ ?_ (fun _ _ d _ _ h => by cases d <;> exact h) ?_
                  · exact fun Y h => TL.joinL h (fun p hp => memr2 hp) (by rw [HKB.out.2.1]; have := HN.out.1; omega) HKB.out.2.2
                  · exact fun vj Y h => (rhash_any Y (K2.map Prod.snd).flatten HKB.out.1.flat (by have := HKB.out.2.2; omega) vj (h.2 [])).mono (fun e w' hh => ⟨by rw [hh.1, HT2'.out.1], TL.below h.1 hh.2⟩)
                  · intro _ Y h
                    obtain ⟨ea, hea⟩ := HBE.out.2.2
                    exact (known_any Y (HBE.out.1.below (TL.ev h).old HBE.out.2.1) ⟨ea, err_at (TL.ev h).old HBE.out.2.1 hea⟩).mono (fun e w' hh => ⟨hh.1, TL.below h hh.2⟩)
                  intro vj Y hY
                  have HF : Hid (Below q W Y) := (TL.ev hY).old
                  clear hY H14
                  simp only [Act.put, List.setIfInBounds_toArray, List.set_cons_zero, List.set_cons_succ]
                  go_wp2
                  go_ret
                  exact ⟨rfl, HF.out⟩
                · have b4 : ¬ (D.length : Int) > 0 := by omega
                  have b5 : ¬ (0 : Int) < (D.length : Int) := by omega
                  clear hKi hgm hmD ht
                  go_wp2
                  go_roundw
                  case rel => exact ⟨i + 1, HII.out.1, by rw [wrapS HII.out.1 (by have := HII.out.2; unfold maxLen; omega)]; exact congrArg (Value.int .i64) (by omega), HTN.out⟩
                  case measure => exact measS HII.out.1 (by have := HII.out.2; unfold maxLen; omega)
              · have b3 : ¬ (i : Int) < (n : Int) := by omega
                have CK : Hid (Calls Tryd.prog 18 #[] wr fun e w' => e = .returned (.bool true) ∧ Below q W w') := known_at (TL.ev ht).old HBE.out.1 HBE.out.2.1 HBE.out.2.2 (TL.ev ht).le
                clear ht hi hlt
                go_wp2_with (first | (go_at_call 18; refine Calls.mono CK.out ?_; rintro e w9 ⟨rfl, h9⟩; have H9 : Hid _ := h9; clear h9 CK))
                go_ret
                exact ⟨rfl, H9.out⟩
end Go.Proofs.YtfkbgodfcnmepaaDoor
namespace Go.Proofs.YtfkbgodfcnmepaaDoor
set_option linter.unusedSimpArgs false
set_option linter.unusedVariables false
open Go.ChangeShapes Go.WideShapes Go.ChangeAt Go.RowKit Go.Pin Go.Str Go.Dig Go.Deep
/-- bytes that came in, and how they are read -/
theorem open_cellsZ {H : Type} {enc : TypeId × Value → H} {W : World} {fuel : Nat} {cs : List Value} {x : DataW H × List MemPlace}
    (hf : DataW.trod enc Tryd.prog W 0 (fun _ => true) true fuel 22 cs = some x) : ∃ (v : Value) (D : List Int), cs = [v] ∧ RdB W v D ∧ Byt D ∧ ((x.1 = .nil ∧ D = []) ∨ ∃ es sp, x.1 = .slice es sp ∧ es.length = D.length) := by
  rcases open_ints Tryd.underlying22 Tryd.underlying5 (by kernel_rfl) hf with ⟨hcs, hx⟩ | ⟨y, l, c, zs, hcs, _, hl, hm, hz, hx, hcell, hwz⟩
  · exact ⟨_, [], hcs, ⟨none, 0, rfl, Nat.le_refl _, .inl rfl⟩, (fun x hx => nomatch hx), .inl ⟨by rw [hx], rfl⟩⟩
  · have hz' : zs.length = c := by simpa using hz
    have hl2 : (zs.take l).length = l := by rw [List.length_take]; omega
    refine ⟨_, zs.take l, hcs, ⟨some y, c, by rw [hl2], by rw [hl2]; exact hl, ?_⟩, fun y hy => u8_of (hwz y (List.mem_of_mem_take hy)), .inr ⟨_, _, by rw [hx], by simp [lits]⟩⟩
    by_cases e : l = 0
    · left; subst e; simp
    · right
      obtain ⟨b, o, rfl⟩ := add_spot (hcell 0 (by omega))
      refine ⟨b, o, rfl, fun j v hv => ?_⟩
      have hj : j < l := by have := (List.getElem?_eq_some_iff.1 hv).1; rw [List.length_map, hl2] at this; exact this
      have := hcell j (by omega)
      rw [add_mid] at this
      rw [this, ← hv]
      simp [List.getElem?_take_of_lt hj, show j < zs.length by omega]
theorem weightsAll_mem {H : Type} {P : Program} {e : TypeId} : ∀ {ds : List (DataW H)} {d : DataW H} {k : Nat}, d ∈ ds → k ∈ d.weights P e → k ∈ DataW.weightsAll P e ds
  | [], _, _, h, _ => nomatch h
  | d' :: r, d, k, h, hk => by
    rw [DataW.weightsAll]
    rcases List.mem_cons.1 h with rfl | h
    · exact List.mem_append_left _ hk
    · exact List.mem_append_right _ (weightsAll_mem h hk)
theorem bytes_u8 : Tryd.prog.bytesOf 5 = 1 := by kernel_rfl
theorem open_piecesZ {H : Type} {enc : TypeId × Value → H} {W : World} {a : Option Addr} {len cap : Nat} {d : DataW H} {p : List MemPlace}
    (h : DataW.Trod enc Tryd.prog W 0 (fun _ => true) true 51 (.slice a len cap) d p) (hs : ∀ k ∈ d.weights Tryd.prog 51, k ≤ reachBytes) : ∃ Ds : List (List Int), Ds.length = len ∧ BytL Ds ∧ PRd W a Ds ∧ (∀ D ∈ Ds, D.length ≤ reachBytes) ∧ len ≤ maxLen := by
  obtain ⟨fuel, hf⟩ := h
  rcases open_slice Tryd.underlying51 hf with ⟨hcs, _⟩ | ⟨x, len', cap', m, n, D, Pl, hcs, _, hl, hm, hmm, hxe, hx⟩
  · simp [Value.cells] at hcs
    obtain ⟨rfl, rfl, rfl⟩ := hcs
    exact ⟨[], rfl, (fun D hD => nomatch hD), (fun j hj => nomatch hj), (fun D hD => nomatch hD), Nat.zero_le _⟩
  · simp [Value.cells] at hcs
    obtain ⟨rfl, rfl, rfl⟩ := hcs
    have hlm : len ≤ m := by rw [hmm]; split <;> omega
    have ce : Tryd.prog.cellsOf 22 = 1 := by kernel_rfl
    have each : ∀ i, i < len → ∃ q : Value × List Int, W.cell? (x.add i) = some q.1 ∧ RdB W q.1 q.2 ∧ Byt q.2 ∧ q.2.length ≤ reachBytes := by
      intro i hi
      obtain ⟨cs', h1, h2⟩ := hx i (by omega)
      rw [ce] at h1
      obtain ⟨_, hlen, hcell⟩ := World.cells?_some h1
      obtain ⟨v, E, hc, hr, hb, hk⟩ := open_cellsZ h2
      refine ⟨(v, E), ?_, hr, hb, ?_⟩
      · have e := hcell 0 (by omega)
        rw [add_add, hc] at e
        simpa using e
      · show E.length ≤ reachBytes
        rcases hk with ⟨_, rfl⟩ | ⟨es, sp, e1, e2⟩
        · exact Nat.zero_le _
        · have hd : D i ∈ (List.range len).map D := List.mem_map.2 ⟨i, List.mem_range.2 hi, rfl⟩
          have hw : (es.length + sp.length) * Tryd.prog.bytesOf 5 ∈ (D i).weights Tryd.prog 22 := by
            simp only at e1
            rw [e1]
            simp [DataW.weights, Tryd.underlying22]
          have := hs _ (by
            rw [(Prod.mk.injEq ..).mp hxe |>.1] 
            simp only [DataW.weights, Tryd.underlying51]
            exact List.mem_cons_of_mem _ (List.mem_append_left _ (weightsAll_mem hd hw)))
          rw [bytes_u8] at this
          omega
    obtain ⟨q, hq⟩ := choose_lt each
    have hat : ∀ j, j < len → ((List.range len).map (fun i => (q i).2)).getD j [] = (q j).2 := fun j hj => by simp [List.getD, hj]
    refine ⟨(List.range len).map (fun i => (q i).2), by simp, fun D hD => ?_, fun j hj => ?_, fun D hD => ?_, by omega⟩
    · simp only [List.mem_map, List.mem_range] at hD
      obtain ⟨i, hi, rfl⟩ := hD
      exact (hq i hi).2.2.1
    · have hj' : j < len := by simpa using hj
      obtain ⟨b, o, rfl⟩ := add_spot (w := W) (x := x) (v := (q 0).1) (by exact (hq 0 (by omega)).1)
      have := (hq j hj').1
      rw [add_mid] at this
      refine ⟨b, o, (q j).1, rfl, this, ?_⟩
      rw [hat j hj']
      exact (hq j hj').2.1
    · simp only [List.mem_map, List.mem_range] at hD
      obtain ⟨i, hi, rfl⟩ := hD
      exact (hq i hi).2.2.2
end Go.Proofs.YtfkbgodfcnmepaaDoor
