import Derived.Test.YtchnkpgkckadmaaGreatDoorMman
import Derived.Test.YtchnkpgkckadmaaGreatDoorMmak
import Derived.Test.YtchnkpgkckadmaaGreatDoorMmag
import Derived.Test.YtchnkpgkckadmaaGreatDoorMmam
import Derived.Test.YtchnkpgkckadmaaGreatDoorMmaa
import Derived.Test.YtchnkpgkckadmaaGreatDoorMmaf
import Derived.Test.YtchnkpgkckadmaaGreatDoorMmal
namespace Go.Proofs.YtchnkpgkckadmaaGreatDoor
set_option linter.unusedSimpArgs false
set_option linter.unusedVariables false
open Go.ChangeShapes Go.WideShapes Go.ChangeAt Go.RowKit Go.Pin Go.Pat
set_option maxRecDepth 100000 in
set_option maxHeartbeats 2000000 in
theorem nints_true {W : World} {u v : Value} {C : List Int} (hu : RdN W u C) (hv : RdN W v C) :
    Calls Tryz.prog 21 #[u, v] W fun e w' => e = .returned (.bool true) ∧ Below W.heap.size W w' := by
  obtain ⟨a, ca, rfl, -, -, -⟩ := id hu
  obtain ⟨b, cb, rfl, -, -, -⟩ := id hv
  obtain ⟨-, hal, hua⟩ := hu.at
  obtain ⟨-, hbl, hvb⟩ := hv.at
  obtain ⟨q, hq⟩ : ∃ q, W.heap.size = q := ⟨_, rfl⟩
  obtain ⟨n, hnl⟩ : ∃ n, C.length = n := ⟨_, rfl⟩
  rw [hnl] at hua hvb hal
  rw [hnl]
  have HN : Hid (n ≤ 140737488355328) := hal
  have HA : Hid _ := hua
  have HB : Hid _ := hvb
  rw [hq]
  clear hu hv hua hvb hbl hal hnl
  go_enter Tryz.func21, Tryz.ntmps21
  go_wp2
  go_loopw [5] (fun v5 wr => ∃ i : Nat, i ≤ n ∧ v5 = .int .i64 i ∧ Below q W wr) (fun v _ => n - (intOf v).toNat)
  case atStart => exact ⟨0, Nat.zero_le _, rfl, Below.refl _ _⟩
  case round =>
    obtain ⟨i, hi, rfl, hp⟩ := hrel
    have HP : Hid (Below q W wr) := hp
    by_cases hlt : i < n
    · have b1 : (i : Int) < (n : Int) := by omega
      obtain ⟨g, o, rfl, h1⟩ := HA.out i hlt
      obtain ⟨g', o', rfl, h2⟩ := HB.out i hlt
      have c := h1 wr (by rw [hq]; exact hp)
      have d := h2 wr (by rw [hq]; exact hp)
      generalize C.getD i 0 = x at *
      clear h1 h2 hp
      go_wp2
      go_quiet (fail)
      go_wp2
      exact ⟨⟨i + 1, hlt, congrArg (Value.int .i64) (wrapS hlt HN.out), drewN_below HP.out _⟩, measS hlt HN.out⟩
    · have b1 : ¬ (i : Int) < (n : Int) := by omega
      clear hp
      go_wp2
      go_ret
      exact ⟨rfl, HP.out⟩
theorem npb2 {q : Nat} {w wr : World} {nm nm' : ByteArray} {v0 v1 vl v0' v1' vl' : Value} (h : PB q w nm v0 v1 vl wr) : PB q w nm v0 v1 vl (wr.alloc (.cells #[.string nm', v0', v1', vl'] 26)) := h.below ((Below.refl _ _).alloc (Nat.le_refl _) _)
set_option maxRecDepth 100000 in
set_option maxHeartbeats 4000000 in
theorem alike_true {W : World} {u v : Value} {p : Pt} (hu : RdP W u p) (hv : RdP W v p) :
    Calls Tryz.prog 9 #[u, v] W fun e w' => e = .returned (.bool true) ∧ Below W.heap.size W w' := by
  obtain ⟨v0, v1, vl, rfl, h0, h1, hl⟩ := hu
  obtain ⟨u0, u1, ul, rfl, g0, g1, gl⟩ := hv
  obtain ⟨a0, p0, rfl, -, -, -⟩ := id h0
  obtain ⟨a1, p1, rfl, -, -, -⟩ := id h1
  obtain ⟨al, cl, rfl, -, hll, -⟩ := id hl
  obtain ⟨e0, k0, rfl, -, -, -⟩ := id g0
  obtain ⟨e1, k1, rfl, -, -, -⟩ := id g1
  obtain ⟨el, kl, rfl, -, -, -⟩ := id gl
  have hst := pb_start W p.nm (.slice a0 p.b0.length p0) (.slice a1 p.b1.length p1) (.slice al p.ln.length cl)
  have hb1 : Below W.heap.size W (W.alloc (.cells #[.string p.nm, .slice a0 p.b0.length p0, .slice a1 p.b1.length p1, .slice al p.ln.length cl] 26)) := hst.old
  have hs2 := pb_start (W.alloc (.cells #[.string p.nm, .slice a0 p.b0.length p0, .slice a1 p.b1.length p1, .slice al p.ln.length cl] 26)) p.nm (.slice e0 p.b0.length k0) (.slice e1 p.b1.length k1) (.slice el p.ln.length kl)
  have hst2 := hst.below hs2.old
  have hb2 := hb1.trans (hs2.old.mono hb1.size)
  have hH0 := fun Y (hY : Below W.heap.size W Y) => nints_true (h0.below hY) (g0.below hY)
  have hH1 := fun Y (hY : Below W.heap.size W Y) => nints_true (h1.below hY) (g1.below hY)
  have hHL := fun Y (hY : Below W.heap.size W Y) => hl.below hY
  have hGL := fun Y (hY : Below W.heap.size W Y) => gl.below hY
  obtain ⟨q, hq⟩ : ∃ q, W.heap.size = q := ⟨_, rfl⟩
  obtain ⟨nm, hnm⟩ : ∃ nm, p.nm = nm := ⟨_, rfl⟩
  obtain ⟨x0, hx0⟩ : ∃ x0, Value.slice a0 p.b0.length p0 = x0 := ⟨_, rfl⟩
  obtain ⟨x1, hx1⟩ : ∃ x1, Value.slice a1 p.b1.length p1 = x1 := ⟨_, rfl⟩
  obtain ⟨y0, hy0⟩ : ∃ y0, Value.slice e0 p.b0.length k0 = y0 := ⟨_, rfl⟩
  obtain ⟨y1, hy1⟩ : ∃ y1, Value.slice e1 p.b1.length k1 = y1 := ⟨_, rfl⟩
  obtain ⟨L, hLn⟩ : ∃ L, p.ln.length = L := ⟨_, rfl⟩
  have hsz : (W.alloc (.cells #[.string p.nm, .slice a0 p.b0.length p0, .slice a1 p.b1.length p1, .slice al p.ln.length cl] 26)).heap.size = q + 1 := by rw [size_alloc, hq]
  rw [hsz] at hs2
  simp only [hq, hnm, hx0, hx1, hy0, hy1, hLn] at hst2 hs2 hb2 hH0 hH1 hHL hGL hll ⊢
  obtain ⟨W1, hW1⟩ : ∃ W1, W.alloc (.cells #[.string nm, x0, x1, .slice al L cl] 26) = W1 := ⟨_, rfl⟩
  simp only [hW1] at hst2 hs2 hb2
  obtain ⟨W2, hW2⟩ : ∃ W2, W1.alloc (.cells #[.string nm, y0, y1, .slice el L kl] 26) = W2 := ⟨_, rfl⟩
  simp only [hW2] at hst2 hs2 hb2
  have hz1 : W1.heap.size = q + 1 := by rw [← hW1, size_alloc, hq]
  have HI0 : Hid _ := hH0
  have HI1 : Hid _ := hH1
  have HHL : Hid _ := hHL
  have HGL : Hid _ := hGL
  have HP : Hid (PB q W nm x0 x1 (.slice al L cl) W2) := hst2
  have HQ : Hid (PB (q + 1) W1 nm y0 y1 (.slice el L kl) W2) := hs2
  have HB : Hid (Below q W W2) := hb2
  have HL : Hid (L ≤ 140737488355328 ∧ p.ln.length = L) := ⟨hll, hLn⟩
  have c0 := hst2.c0
  have c1 := hst2.c1
  have c2 := hst2.c2
  have c3 := hst2.c3
  have d0 := hs2.c0
  have d1 := hs2.c1
  have d2 := hs2.c2
  have d3 := hs2.c3
  have CI0 := HI0.out W2 HB.out
  clear hst hst2 hs2 hb1 hb2 hH0 hH1 hHL hGL hll h0 h1 hl g0 g1 gl hx0 hx1 hy0 hy1 hLn hnm hsz
  go_enter Tryz.func9, Tryz.ntmps9
  go_upto_region 3 with (first
    | (go_at_call 21; refine Calls.mono CI0 ?_; rintro e w1 ⟨rfl, hb⟩; have HP1 : Hid (PB q W nm x0 x1 (.slice al L cl) w1) := HP.out.below hb; have HQ1 : Hid (PB (q + 1) W1 nm y0 y1 (.slice el L kl) w1) := HQ.out.below hb; have HB1 : Hid (Below q W w1) := HP1.out.old; clear hb c0 c1 c2 c3 d0 d1 d2 d3 CI0; have c0 := HP1.out.c0; have c1 := HP1.out.c1; have c2 := HP1.out.c2; have c3 := HP1.out.c3; have d0 := HQ1.out.c0; have d1 := HQ1.out.c1; have d2 := HQ1.out.c2; have d3 := HQ1.out.c3; have CI1 := HI1.out w1 HB1.out)
    | (go_at_call 21; refine Calls.mono CI1 ?_; rintro e w2 ⟨rfl, hb⟩; have HP2 : Hid (PB q W nm x0 x1 (.slice al L cl) w2) := HP1.out.below hb; have HQ2 : Hid (PB (q + 1) W1 nm y0 y1 (.slice el L kl) w2) := HQ1.out.below hb; clear hb c0 c1 c2 c3 d0 d1 d2 d3 CI1; have c3 := HP2.out.c3; have d3 := HQ2.out.c3))
  clear c3 d3
  go_wp2
  go_loopw [5] (fun v5 wr => ∃ i : Nat, i ≤ L ∧ v5 = .int .i64 i ∧ PB q W nm x0 x1 (.slice al L cl) wr ∧ PB (q + 1) W1 nm y0 y1 (.slice el L kl) wr) (fun v _ => L - (intOf v).toNat)
  case atStart => exact ⟨0, Nat.zero_le _, rfl, HP2.out, HQ2.out⟩
  case round =>
    obtain ⟨i, hi, rfl, hp, hqq⟩ := hrel
    have HPR : Hid (PB q W nm x0 x1 (.slice al L cl) wr) := hp
    have HQR : Hid (PB (q + 1) W1 nm y0 y1 (.slice el L kl) wr) := hqq
    have c3 := hp.c3
    have d3 := hqq.c3
    by_cases hlt : i < L
    · have b1 : (i : Int) < (L : Int) := by omega
      obtain ⟨b, o, a2, n2, c2, rfl, hc, hn, hn2⟩ := (HHL.out wr hp.old).at hlt
      obtain ⟨b', o', a2', n2', c2', rfl, hc', hn', hn2'⟩ := (HGL.out wr hp.old).at hlt
      have en : n2' = n2 := by rw [hn2, hn2']
      subst en
      have HII : Hid (∀ Y, Below wr.heap.size wr Y → _) := fun Y hY => nints_true (hn.below hY) (hn'.below hY)
      have HC : Hid _ := hc
      have HC' : Hid _ := hc'
      generalize (p.ln.getD i (0, [])).1 = f at *
      clear hc hc' hn hn' hp hqq hn2 hn2'
      go_wp2
      refine Go.Pin.wp_region_cls (fun Y => Below wr.heap.size wr Y) (by kernel_rfl) (by kernel_rfl) ((Below.refl _ _).drew) ?_
      intro Sq fq hNq hRq hSq
      have z0 := fun x => (HPR.out.below (hRq x)).c3
      have z1 := fun x => (HQR.out.below (hRq x)).c3
      have k0 := fun x => (HC.out _ (hRq x)).1
      have k1 := fun x => (HC.out _ (hRq x)).2
      have l0 := fun x => (HC'.out _ (hRq x)).1
      have l1 := fun x => (HC'.out _ (hRq x)).2
      have CF := fun x => HII.out (fq x) (hRq x)
      repeat (go_big_quiet_step (exact (CF _).mono (fun e w' h => ⟨h.1, hSq _ ((hRq _).trans (h.2.mono (hRq _).size))⟩)))
      refine wpQuiet_nil ?_
      intro _ hw'
      obtain ⟨xq, hw''⟩ := hw'
      subst hw''
      have HYq := hRq xq
      generalize fq xq = Y at HYq ⊢
      clear hRq hSq hNq xq fq Sq z0 z1 k0 k1 l0 l1 CF c3 d3
      have HY : Hid (Below wr.heap.size wr Y) := HYq
      clear HYq
      go_wp2
      exact ⟨⟨i + 1, hlt, congrArg (Value.int .i64) (wrapS hlt HL.out.1), HPR.out.below HY.out, HQR.out.below HY.out⟩, measS hlt HL.out.1⟩
    · have b1 : ¬ (i : Int) < (L : Int) := by omega
      clear hp hqq
      go_wp2
      go_ret
      exact ⟨rfl, HPR.out.old⟩
end Go.Proofs.YtchnkpgkckadmaaGreatDoor
namespace Go.Proofs.YtchnkpgkckadmaaGreatDoor
set_option linter.unusedSimpArgs false
set_option linter.unusedVariables false
open Go.ChangeShapes Go.WideShapes Go.ChangeAt Go.RowKit Go.Pin Go.Pat
set_option maxRecDepth 100000 in
theorem word_any (t : Int) (w : World) :
    Calls Tryz.prog 84 #[.int .i64 t] w fun e w' => e = .returned (.string (wrd t)) ∧ w' = w := by
  go_enter Tryz.func84, Tryz.ntmps84
  go_wp2
  all_goals
    go_ret
    refine ⟨?_, rfl⟩
    simp_all [wrd]
set_option maxRecDepth 100000 in
set_option maxHeartbeats 2000000 in
theorem _root_.ByteArray.size_eq_length (s : ByteArray) : s.size = s.toList.length := by rw [Go.ByteArray.toList_eq, Array.length_toList]; rfl
end Go.Proofs.YtchnkpgkckadmaaGreatDoor
namespace Go.Proofs.YtchnkpgkckadmaaGreatDoor
set_option linter.unusedSimpArgs false
set_option linter.unusedVariables false
open Go.ChangeShapes Go.WideShapes Go.ChangeAt Go.RowKit Go.Pin Go.Pat
theorem byt_get (s : ByteArray) (i : Nat) (h : i < s.size) : byt s i = s[i].toNat := by
  unfold byt
  have : i < s.data.toList.length := by rw [Array.length_toList]; exact h
  rw [List.getD_eq_getElem?_getD, List.getElem?_eq_getElem this]
  rfl
set_option maxRecDepth 100000 in
set_option maxHeartbeats 4000000 in
theorem split_any (s : ByteArray) (c : Nat) (W : World) (hs : s.size ≤ 100000) :
    Calls Tryz.prog 59 #[.string s, .int .u8 (c : Int)] W fun e w' => ∃ v, e = .returned v ∧ w'.ownsRow W.heap.size 9 1 v (spl s c).length ((spl s c).map Value.string) ∧ Below W.heap.size W w' := by
  obtain ⟨q, hq⟩ : ∃ q, W.heap.size = q := ⟨_, rfl⟩
  obtain ⟨n, hn⟩ : ∃ n, s.size = n := ⟨_, rfl⟩
  rw [hn] at hs
  rw [hq]
  go_enter Tryz.func59, Tryz.ntmps59
  go_wp2
  go_loopw [5, 6, 7] (fun v5 v6 v7 wr => ∃ i : Nat, i ≤ n + 1 ∧ v7 = .int .i64 i ∧ v6 = .int .i64 ((splN s c i).2 : Nat) ∧ wr.ownsRow q 9 1 v5 (splN s c i).1.length ((splN s c i).1.map Value.string) ∧ Below q W wr) (fun _ _ v _ => n + 1 - (intOf v).toNat)
  case atStart => exact ⟨0, Nat.zero_le _, rfl, rfl, own_nil0 _ _ _ _, Below.refl _ _⟩
  case round =>
    obtain ⟨i, hi, rfl, rfl, ho, hb⟩ := hrel
    have hle := splN_le s c i
    have hu : splN s c (i + 1) = if i = s.size ∨ byt s i = c then ((splN s c i).1 ++ [s.extract (splN s c i).2 i], i + 1) else splN s c i := rfl
    obtain ⟨r, hr⟩ : ∃ r, splN s c i = r := ⟨_, rfl⟩
    have hr0 := hr
    rw [hr] at ho hle hu ⊢
    obtain ⟨L, at_⟩ := r
    have HR0 : Hid (splN s c i = (L, at_)) := hr0
    clear hr0
    simp only at ho hle hu ⊢
    obtain ⟨m, hm⟩ : ∃ m, L.length = m := ⟨_, rfl⟩
    rw [hm] at ho hle
    have HO : Hid (wr.ownsRow q 9 1 u5 m (L.map Value.string)) := ho
    have HB : Hid (Below q W wr) := hb
    have HM : Hid (L.length = m) := hm
    have hqs : q ≤ wr.heap.size := by have := hb.size; omega
    clear ho hb hr hm
    by_cases hlt : i ≤ n
    · have b1 : (i : Int) ≤ (n : Int) := by omega
      by_cases hcut : i = s.size ∨ byt s i = c
      · rw [if_pos hcut] at hu
        have hst := HO.out.alloc (.cells #[.string (s.extract at_ i)] 9)
        have hrow : (wr.alloc (.cells #[.string (s.extract at_ i)] 9)).heap[wr.heap.size]? = some (.cells [Value.string (s.extract at_ i)].toArray 9 (0, 0)) := heap_alloc_new _ _
        have HAP : Hid _ := own_app Tryz.underlying41 parts_str rfl (by decide) hst hrow rfl (fun u hu => by simp at hu; subst hu; rfl) (by omega) (by omega) (by rw [size_alloc]; omega)
        have hb2 : Below q W (wr.alloc (.cells #[.string (s.extract at_ i)] 9)) := HB.out.alloc hqs _
        have HB2 : Hid _ := hb2
        have HST : Hid _ := hst
        have HU : Hid _ := hu
        have a1 : (at_ : Int) ≤ (i : Int) := by omega
        have a2 : (i : Int) ≤ (s.size : Int) := by omega
        clear hu hst hrow hb2
        by_cases he : i = n
        · have e1 : ((i : Int) == (n : Int)) = true := by rw [he]; simp
          clear he hcut
          go_wp2_with (at_builtin; go_loud (refine wpList_app _ rfl (.tmp 25) (.tmp 30) 41 41 rfl _ _ rfl rfl HAP.out ?_; rintro v' w' ⟨h1, h2, h3⟩; have H7 : Hid (w'.ownsRow q 9 1 v' (m + 1) (L.map Value.string ++ [.string (s.extract at_ i)])) := h1; have H8 : Hid (Below q W w') := grown_below HB2.out HST.out (Nat.le_refl _) (by rw [size_alloc]; omega) h2; clear h1 h2 h3))
          refine ⟨⟨i + 1, by omega, congrArg (Value.int .i64) (Int.natCast_succ i).symm, ?_, ?_, H8.out⟩, by show n + 1 - ((i : Int) + 1).toNat < n + 1 - ((i : Int)).toNat; omega⟩
          · rw [HU.out]; exact congrArg (Value.int .i64) (Int.natCast_succ i).symm
          · rw [HU.out]; simp only [List.length_append, List.length_singleton, HM.out, List.map_append, List.map_cons, List.map_nil]; exact H7.out
        · have e1 : ((i : Int) == (n : Int)) = false := by simp; omega
          have hil : i < s.size := by omega
          have e2 : ((s[i].toNat : Int) == (c : Int)) = true := by
            rcases hcut with h | h
            · omega
            · rw [byt_get s i hil] at h; simp; omega
          clear he hcut
          go_wp2_with (at_builtin; go_loud (refine wpList_app _ rfl (.tmp 25) (.tmp 30) 41 41 rfl _ _ rfl rfl HAP.out ?_; rintro v' w' ⟨h1, h2, h3⟩; have H7 : Hid (w'.ownsRow q 9 1 v' (m + 1) (L.map Value.string ++ [.string (s.extract at_ i)])) := h1; have H8 : Hid (Below q W w') := grown_below HB2.out HST.out (Nat.le_refl _) (by rw [size_alloc]; omega) h2; clear h1 h2 h3))
          refine ⟨⟨i + 1, by omega, congrArg (Value.int .i64) (Int.natCast_succ i).symm, ?_, ?_, H8.out⟩, by show n + 1 - ((i : Int) + 1).toNat < n + 1 - ((i : Int)).toNat; omega⟩
          · rw [HU.out]; exact congrArg (Value.int .i64) (Int.natCast_succ i).symm
          · rw [HU.out]; simp only [List.length_append, List.length_singleton, HM.out, List.map_append, List.map_cons, List.map_nil]; exact H7.out
      · rw [if_neg hcut] at hu
        have HU : Hid _ := hu
        have e1 : ((i : Int) == (n : Int)) = false := by simp; omega
        have hil : i < s.size := by omega
        have e2 : ((s[i].toNat : Int) == (c : Int)) = false := by
          have : byt s i ≠ c := fun h => hcut (.inr h)
          rw [byt_get s i hil] at this; simp; omega
        clear hu hcut
        go_wp2
        refine ⟨⟨i + 1, by omega, congrArg (Value.int .i64) (Int.natCast_succ i).symm, ?_, ?_, HB.out⟩, by show n + 1 - ((i : Int) + 1).toNat < n + 1 - ((i : Int)).toNat; omega⟩
        · rw [HU.out]
        · rw [HU.out]; simp only [HM.out]; exact HO.out
    · have b1 : ¬ (i : Int) ≤ (n : Int) := by omega
      have HI : Hid (splN s c (n + 1) = (L, at_)) := by
        show splN s c (n + 1) = (L, at_)
        rw [← HR0.out, show n + 1 = i by omega]
      clear hu
      go_wp2
      go_ret
      refine ⟨_, rfl, ?_, HB.out⟩
      unfold spl
      rw [hn, HI.out]
      simp only [HM.out]
      exact HO.out
end Go.Proofs.YtchnkpgkckadmaaGreatDoor
namespace Go.Proofs.YtchnkpgkckadmaaGreatDoor
set_option linter.unusedSimpArgs false
set_option linter.unusedVariables false
open Go.ChangeShapes Go.WideShapes Go.ChangeAt Go.RowKit Go.Pin Go.Pat
theorem str_inj {a b : ByteArray} (h : a.toList = b.toList) : a = b := by
  rw [Go.ByteArray.toList_eq, Go.ByteArray.toList_eq] at h
  obtain ⟨⟨x⟩⟩ := a
  obtain ⟨⟨y⟩⟩ := b
  simp only at h
  rw [h]
theorem str_eq (a b : ByteArray) : (a.toList == b.toList) = decide (a = b) := by
  by_cases h : a = b
  · rw [h]; simp
  · rw [decide_eq_false h]
    cases e : a.toList == b.toList with
    | false => rfl
    | true => exact absurd (str_inj (by simpa using e)) h
theorem own_mono {w : World} {b c : Nat} {e : TypeId} {k n : Nat} {v : Value} {xs : List Value} (h : w.ownsRow b e k v n xs) (hc : c ≤ b) : w.ownsRow c e k v n xs := by
  refine ⟨h.1, ?_⟩
  rcases h.2 with h0 | ⟨g, cap, cur, e', h1, hr⟩
  · exact .inl h0
  · exact .inr ⟨g, cap, cur, e', Nat.le_trans hc h1, hr⟩
theorem RdS.at {w : World} {a : Option Addr} {n cap : Nat} {L : List ByteArray} (h : RdS w (.slice a n cap) L) {j : Nat} (hj : j < n) : n = L.length ∧ ∃ b o, a = some ⟨b, o, none⟩ ∧ ∀ W, Below w.heap.size w W → W.cell? ⟨b, o + j, none⟩ = some (.string (L.getD j ⟨#[]⟩)) := by
  obtain ⟨a', c', e, h3⟩ := h
  injection e with e1 e2 e3
  subst e1 e2 e3
  obtain ⟨b, o, g1, g2⟩ := h3 j hj
  exact ⟨rfl, b, o, g1, fun W hW => cell_below hW g2⟩
def tkL (L : List ByteArray) (i : Nat) : List Int := (L.take i).flatMap fun x => tokW x 7
theorem tkL_snoc (L : List ByteArray) {i : Nat} (h : i < L.length) : tkL L (i + 1) = tkL L i ++ tokW (L.getD i ⟨#[]⟩) 7 := by
  unfold tkL
  rw [List.take_add_one, List.getElem?_eq_getElem h, List.flatMap_append]
  simp [List.getD, h]
theorem tokW_len (x : ByteArray) (k : Nat) : (tokW x k).length ≤ k := by
  induction k with
  | zero => exact Nat.le_refl _
  | succ k ih =>
    unfold tokW
    split
    · rw [List.length_append, List.length_singleton]; omega
    · omega
theorem tkL_len (L : List ByteArray) (i : Nat) : (tkL L i).length ≤ 7 * i := by
  induction i with
  | zero => simp [tkL]
  | succ i ih =>
    by_cases h : i < L.length
    · rw [tkL_snoc L h, List.length_append]
      have := tokW_len (L.getD i ⟨#[]⟩) 7
      omega
    · have : tkL L (i + 1) = tkL L i := by unfold tkL; rw [List.take_of_length_le (by omega), List.take_of_length_le (by omega)]
      rw [this]
      omega
set_option maxRecDepth 100000 in
set_option maxHeartbeats 4000000 in
theorem tokens_any (s : ByteArray) (W : World) (hs : s.size ≤ 100000) :
    Calls Tryz.prog 60 #[.string s] W fun e w' => ∃ v, e = .returned v ∧ w'.ownsRow W.heap.size 3 1 v (toks s).length ((toks s).map (Value.int .i64)) ∧ Below W.heap.size W w' := by
  have CS := split_any s 32 W hs
  have hsl := (splN_le s 32 (s.size + 1)).2
  obtain ⟨q, hq⟩ : ∃ q, W.heap.size = q := ⟨_, rfl⟩
  rw [hq] at CS
  rw [hq]
  have heq := str_eq s ⟨#[]⟩
  by_cases h0 : s.size = 0
  · have h1 : s = ⟨#[]⟩ := by
      obtain ⟨⟨l⟩⟩ := s
      have : l.length = 0 := h0
      rw [List.length_eq_zero_iff.1 this]
    have HT : Hid (toks s = []) := by show toks s = []; unfold toks; rw [if_pos h0]
    subst h1
    clear CS hsl
    go_enter Tryz.func60, Tryz.ntmps60
    go_wp2
    go_ret
    refine ⟨_, rfl, ?_, Below.refl _ _⟩
    rw [HT.out]
    exact own_nil0 _ _ _ _
  have h1 : s ≠ ⟨#[]⟩ := fun h => h0 (by rw [h]; rfl)
  rw [decide_eq_false h1] at heq
  have heq2 : (s.toList == []) = false := by rw [show ([] : List UInt8) = (⟨#[]⟩ : ByteArray).toList by simp]; exact heq
  have heq3 : s.toList.isEmpty = false := by
    cases h : s.toList with
    | nil => rw [h] at heq2; simp at heq2
    | cons a b => rfl
  have HT : Hid (toks s = tkL (spl s 32) (spl s 32).length) := by show toks s = _; unfold toks tkL; rw [if_neg h0, List.take_length]
  have hsl' : (spl s 32).length ≤ 100001 := by unfold spl; omega
  generalize spl s 32 = L at *
  obtain ⟨n, hn⟩ : ∃ n, L.length = n := ⟨_, rfl⟩
  rw [hn] at CS hsl' HT
  have HL : Hid (L.length = n) := hn
  clear hsl h0 h1 heq hn
  go_enter Tryz.func60, Tryz.ntmps60
  go_wp2_with (go_at_call 59; refine CS.mono ?_; rintro e w1 ⟨v, rfl, ho, hb⟩; obtain ⟨a, cap, rfl⟩ := own_slice' ho; have HO : Hid (w1.ownsRow q 9 1 (.slice a n cap) n (L.map Value.string)) := ho; have HB : Hid (Below q W w1) := hb; clear ho hb CS)
  have hrd : RdS w1 (.slice a n cap) L := own_strs (by rw [HL.out]; exact HO.out)
  have HRD : Hid (RdS w1 (.slice a n cap) L) := hrd
  have hq1 : q ≤ w1.heap.size := by have := HB.out.size; omega
  clear hrd HO
  obtain ⟨q1, hqq⟩ : ∃ q1, w1.heap.size = q1 := ⟨_, rfl⟩
  rw [hqq] at hq1
  go_loopw [3, 5] (fun v3 v5 wr => ∃ i : Nat, i ≤ n ∧ v5 = .int .i64 i ∧ wr.ownsRow q1 3 1 v3 (tkL L i).length ((tkL L i).map (Value.int .i64)) ∧ Below q1 w1 wr) (fun _ v _ => n - (intOf v).toNat)
  case atStart => exact ⟨0, Nat.zero_le _, rfl, own_nil0 _ _ _ _, Below.refl _ _⟩
  case round =>
    obtain ⟨i, hi, rfl, ho, hb⟩ := hrel
    have HO : Hid _ := ho
    have HB1 : Hid (Below q1 w1 wr) := hb
    by_cases hlt : i < n
    · have b1 : (i : Int) < (n : Int) := by omega
      obtain ⟨-, g, o, rfl, hc⟩ := HRD.out.at hlt
      rw [hqq] at hc
      have HC : Hid _ := hc
      have hsn := tkL_snoc L (i := i) (by rw [HL.out]; exact hlt)
      have hln := tkL_len L i
      obtain ⟨x, hx⟩ : ∃ x, L.getD i ⟨#[]⟩ = x := ⟨_, rfl⟩
      rw [hx] at hsn HC
      have HSN : Hid _ := hsn
      obtain ⟨T, hT⟩ : ∃ T, tkL L i = T := ⟨_, rfl⟩
      rw [hT] at HO HSN hln
      clear ho hb hc hsn hx hT
      go_wp2
      go_loopw [3, 6] (fun v3 v6 wy => ∃ k : Nat, k ≤ 7 ∧ v6 = .int .i64 ((k + 1 : Nat) : Int) ∧ wy.ownsRow q1 3 1 v3 (T ++ tokW x k).length ((T ++ tokW x k).map (Value.int .i64)) ∧ Below q1 w1 wy) (fun _ v _ => 8 - (intOf v).toNat)
      case atStart => exact ⟨0, Nat.zero_le _, rfl, by rw [show tokW x 0 = [] from rfl, List.append_nil]; exact HO.out, HB1.out⟩
      case round =>
        obtain ⟨k, hk, rfl, ho, hb⟩ := hrel
        obtain ⟨m, hm⟩ : ∃ m, (T ++ tokW x k).length = m := ⟨_, rfl⟩
        have htl := tokW_len x k
        rw [hm] at ho
        have hmb : m ≤ 1000000 := by rw [← hm, List.length_append]; omega
        have HOY : Hid (wr.ownsRow q1 3 1 u3 m ((T ++ tokW x k).map (Value.int .i64))) := ho
        have HBY : Hid (Below q1 w1 wr) := hb
        have HM : Hid ((T ++ tokW x k).length = m) := hm
        clear ho hb hm htl
        by_cases h7 : k < 7
        · have b7 : ((k + 1 : Nat) : Int) ≤ 7 := by omega
          have hu : tokW x (k + 1) = if wrd ((k + 1 : Nat) : Int) = x then tokW x k ++ [((k + 1 : Nat) : Int)] else tokW x k := rfl
          have HWD : Hid (∀ Y, _) := fun Y => word_any ((k + 1 : Nat) : Int) Y
          have hse := str_eq (wrd ((k + 1 : Nat) : Int)) x
          obtain ⟨wd, hwd⟩ : ∃ wd, wrd ((k + 1 : Nat) : Int) = wd := ⟨_, rfl⟩
          rw [hwd] at HWD hse hu
          obtain ⟨t, ht⟩ : ∃ t, ((k + 1 : Nat) : Int) = t := ⟨_, rfl⟩
          rw [ht] at b7 hu HWD ⊢
          have t1 : 1 ≤ t := by omega
          have HT' : Hid (((k + 1 : Nat) : Int) = t) := ht
          have HU : Hid _ := hu
          clear hu hwd ht
          go_wp2
          by_cases hwx : wd = x
          · rw [decide_eq_true hwx] at hse
            rw [if_pos hwx] at HU
            clear hwx
            refine Go.Pin.wp_region_cls (fun Y => Below wr.heap.size wr Y) (by kernel_rfl) (by kernel_rfl) ((Below.refl _ _).drew) ?_
            intro Sq fq hNq hRq hSq
            have k0 := fun x => HC.out _ (HBY.out.trans ((hRq x).mono (by have := HBY.out.size; omega)))
            have CF := fun x => HWD.out (fq x)
            repeat (go_big_quiet_step (exact (CF _).mono (fun e w' h => ⟨h.1, hSq _ (by rw [h.2]; exact hRq _)⟩)))
            refine wpQuiet_nil ?_
            intro _ hw'
            obtain ⟨xq, hw''⟩ := hw'
            subst hw''
            have HYq := hRq xq
            generalize fq xq = Y at HYq ⊢
            clear hRq hSq hNq xq fq Sq k0 CF
            have HY : Hid (Below wr.heap.size wr Y) := HYq
            have hoy := owns_below HYq HOY.out
            have hby := HBY.out.trans (HYq.mono (by have := HBY.out.size; omega))
            have hqy : q1 ≤ Y.heap.size := by have := hby.size; omega
            have hst := hoy.alloc (.cells #[.int .i64 t] 3)
            have hrow : (Y.alloc (.cells #[.int .i64 t] 3)).heap[Y.heap.size]? = some (.cells [Value.int .i64 t].toArray 3 (0, 0)) := heap_alloc_new _ _
            have HAP : Hid _ := own_app Tryz.underlying22 parts_int rfl (by decide) hst hrow rfl (fun u hu => by simp at hu; subst hu; rfl) (by omega) (by omega) (by rw [size_alloc]; omega)
            have HB2 : Hid (Below q1 w1 (Y.alloc (.cells #[.int .i64 t] 3))) := hby.alloc hqy _
            have HST : Hid _ := hst
            clear HYq hst hrow hoy hby
            go_wp2_with (at_builtin; go_loud (refine wpList_app _ rfl (.tmp 28) (.tmp 30) 22 22 rfl _ _ rfl rfl HAP.out ?_; rintro v' w' ⟨h1, h2, h3⟩; have H7 : Hid (w'.ownsRow q1 3 1 v' (m + 1) ((T ++ tokW x k).map (Value.int .i64) ++ [.int .i64 t])) := h1; have H8 : Hid (Below q1 w1 w') := grown_below HB2.out HST.out (Nat.le_refl _) (by rw [size_alloc]; omega) h2; clear h1 h2 h3))
            refine ⟨⟨k + 1, h7, ?_, ?_, H8.out⟩, ?_⟩
            · have := HT'.out; exact congrArg (Value.int .i64) (by omega)
            · rw [HU.out, ← List.append_assoc]
              simp only [List.length_append (bs := [t]), List.length_singleton, HM.out, List.map_append (l₂ := [t]), List.map_cons, List.map_nil]
              exact H7.out
            · show 8 - (t + 1).toNat < 8 - t.toNat; omega
          · rw [decide_eq_false hwx] at hse
            rw [if_neg hwx] at HU
            clear hwx
            refine Go.Pin.wp_region_cls (fun Y => Below wr.heap.size wr Y) (by kernel_rfl) (by kernel_rfl) ((Below.refl _ _).drew) ?_
            intro Sq fq hNq hRq hSq
            have k0 := fun x => HC.out _ (HBY.out.trans ((hRq x).mono (by have := HBY.out.size; omega)))
            have CF := fun x => HWD.out (fq x)
            repeat (go_big_quiet_step (exact (CF _).mono (fun e w' h => ⟨h.1, hSq _ (by rw [h.2]; exact hRq _)⟩)))
            refine wpQuiet_nil ?_
            intro _ hw'
            obtain ⟨xq, hw''⟩ := hw'
            subst hw''
            have HYq := hRq xq
            generalize fq xq = Y at HYq ⊢
            clear hRq hSq hNq xq fq Sq k0 CF
            have HY : Hid (Below wr.heap.size wr Y) := HYq
            clear HYq
            go_wp2
            refine ⟨⟨k + 1, h7, ?_, ?_, HBY.out.trans (HY.out.mono (by have := HBY.out.size; omega))⟩, ?_⟩
            · have := HT'.out; exact congrArg (Value.int .i64) (by omega)
            · rw [HU.out, HM.out]; exact owns_below HY.out HOY.out
            · show 8 - (t + 1).toNat < 8 - t.toNat; omega
        · have b7 : ¬ ((k + 1 : Nat) : Int) ≤ 7 := by omega
          obtain rfl : k = 7 := by omega
          go_wp2
          refine ⟨⟨i + 1, hlt, congrArg (Value.int .i64) (Int.natCast_succ i).symm, ?_, HBY.out⟩, by show n - ((i : Int) + 1).toNat < n - ((i : Int)).toNat; omega⟩
          rw [HSN.out, HM.out]
          exact HOY.out
    · have b1 : ¬ (i : Int) < (n : Int) := by omega
      obtain rfl : i = n := by omega
      clear ho hb
      go_wp2
      go_ret
      refine ⟨_, rfl, ?_, HB.out.trans (HB1.out.mono hq1)⟩
      rw [HT.out]
      exact own_mono HO.out hq1
end Go.Proofs.YtchnkpgkckadmaaGreatDoor
namespace Go.Proofs.YtchnkpgkckadmaaGreatDoor
set_option linter.unusedSimpArgs false
set_option linter.unusedVariables false
open Go.ChangeShapes Go.WideShapes Go.ChangeAt Go.RowKit Go.Pin Go.Pat
end Go.Proofs.YtchnkpgkckadmaaGreatDoor
namespace Go.Proofs.YtchnkpgkckadmaaGreatDoor
set_option linter.unusedSimpArgs false
set_option linter.unusedVariables false
open Go.ChangeShapes Go.WideShapes Go.ChangeAt Go.RowKit Go.Pin Go.Pat
theorem cma_byt (s : ByteArray) (n : Nat) (h : n < cma s) : byt s n ≠ 44 := cm_lt s.data.toList n h
theorem cma_end (s : ByteArray) (h : cma s < s.size) : byt s (cma s) = 44 := cm_at s.data.toList (by rw [Array.length_toList]; exact h)
/-- what words answers -/
def WdP (s : ByteArray) (q : Nat) (W : World) (e : Ending) (w' : World) : Prop := Below q W w' ∧ ((wds s = none ∧ e = .returned (.tuple #[.slice none 0 0, .bool false])) ∨ ∃ v C, wds s = some C ∧ C.length ≤ 100000 ∧ e = .returned (.tuple #[v, .bool true]) ∧ w'.ownsRow q 3 1 v C.length (C.map (Value.int .i64)))
end Go.Proofs.YtchnkpgkckadmaaGreatDoor
namespace Go.Proofs.YtchnkpgkckadmaaGreatDoor
set_option linter.unusedSimpArgs false
set_option linter.unusedVariables false
open Go.ChangeShapes Go.WideShapes Go.ChangeAt Go.RowKit Go.Pin Go.Pat
theorem take5 {s : ByteArray} {a b c d e : UInt8} (h : s.extract 0 5 = ⟨#[a, b, c, d, e]⟩) : byt s 2 = c.toNat := by
  obtain ⟨⟨l⟩⟩ := s
  rw [Go.ByteArray.extract_mk] at h
  injection h with h
  injection h with h
  have h2 := congrArg (fun t : List UInt8 => t.getD 2 0) h
  unfold byt
  simp only [List.drop_zero, List.getD_eq_getElem?_getD, List.getElem?_take] at h2 ⊢
  simp at h2
  rw [h2]
/-- what line answers -/
def LnP (s : ByteArray) (q : Nat) (W : World) (e : Ending) (w' : World) : Prop := Below q W w' ∧ ((lin s = none ∧ ∃ x : Int, e = .returned (.tuple #[.agg #[.int .i64 x, .slice none 0 0], .bool false])) ∨ ∃ (v : Value) (f : Int) (C : List Int), lin s = some (f, C) ∧ (f = 0 ∨ f = 1) ∧ C.length ≤ 100000 ∧ e = .returned (.tuple #[.agg #[.int .i64 f, v], .bool true]) ∧ w'.ownsRow (q + 1) 3 1 v C.length (C.map (Value.int .i64)))
theorem il2 (a b : Value) : (Tryz.prog.info? 55).map (·.size) = some (#[a, b] : Array Value).size := by kernel_rfl
theorem strA (s : ByteArray) : (s.toList == [32, 32, 45, 62, 32]) = decide (s = hdA) := by rw [← str_eq, show hdA.toList = [32, 32, 45, 62, 32] by simp [hdA]]
theorem strB (s : ByteArray) : (s.toList == [32, 32, 60, 45, 32]) = decide (s = hdB) := by rw [← str_eq, show hdB.toList = [32, 32, 60, 45, 32] by simp [hdB]]
abbrev zLn : Array Value := #[.int .i64 0, .slice none 0 0]
theorem owns_setRow {w : World} {q b : Nat} {e : TypeId} {k n : Nat} {v : Value} {xs : List Value} {cs : Array Value} (h : w.ownsRow b e k v n xs) (hq : q < b) : (w.setRow q cs).ownsRow b e k v n xs := by
  refine ⟨h.1, ?_⟩
  rcases h.2 with h0 | ⟨g, cap, cur, rfl, h1, hg, hr⟩
  · exact .inl h0
  · exact .inr ⟨g, cap, cur, rfl, h1, (setRow_other _ _ _ _ (by omega)).trans hg, hr⟩
end Go.Proofs.YtchnkpgkckadmaaGreatDoor
