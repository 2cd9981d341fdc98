import Derived.Test.YtmlcgcmoioekpaaGreatDoorMpbk
import Derived.Test.YtmlcgcmoioekpaaGreatDoorMpag
namespace Go.Proofs.YtmlcgcmoioekpaaGreatDoor
set_option linter.unusedSimpArgs false
set_option linter.unusedVariables false
open Go.ChangeShapes Go.WideShapes Go.ChangeAt Go.RowKit Go.Pin Go.Pat
theorem cma_byt (s : ByteArray) (n : Nat) (h : n < cma s) : byt s n ≠ 44 := cm_lt s.data.toList n h
theorem cma_end (s : ByteArray) (h : cma s < s.size) : byt s (cma s) = 44 := cm_at s.data.toList (by rw [Array.length_toList]; exact h)
/-- what words answers -/
def WdP (s : ByteArray) (q : Nat) (W : World) (e : Ending) (w' : World) : Prop := Below q W w' ∧ ((wds s = none ∧ e = .returned (.tuple #[.slice none 0 0, .bool false])) ∨ ∃ v C, wds s = some C ∧ C.length ≤ 100000 ∧ e = .returned (.tuple #[v, .bool true]) ∧ w'.ownsRow q 3 1 v C.length (C.map (Value.int .i64)))
set_option maxRecDepth 100000 in
set_option maxHeartbeats 4000000 in
theorem words_any (s : ByteArray) (W : World) (hs : s.size ≤ 10000) :
    Calls Tryz.prog 83 #[.string s] W fun e w' => WdP s W.heap.size W e w' := by
  obtain ⟨q, hq⟩ : ∃ q, W.heap.size = q := ⟨_, rfl⟩
  rw [hq]
  have HS : Hid (s.size ≤ 10000) := hs
  clear hs
  go_enter Tryz.func83, Tryz.ntmps83
  go_wp2
  go_loopw [0, 4] (fun v0 v4 wr => ∃ (f : Nat) (z : ByteArray) (A : List Int), v0 = .string z ∧ z.size < f ∧ z.size + A.length ≤ s.size ∧ wds s = (wdsN f z).map (A ++ ·) ∧ wr.ownsRow q 3 1 v4 A.length (A.map (Value.int .i64)) ∧ Below q W wr) (fun v _ _ => match v with | .string z => z.size | _ => 0)
  case atStart => exact ⟨s.size + 1, s, [], rfl, Nat.lt_succ_self _, by simp, by simp [wds], own_nil0 _ _ _ _, Below.refl _ _⟩
  case round =>
    obtain ⟨f, z, A, rfl, hf, hzA, hw, ho, hb⟩ := hrel
    obtain ⟨f, rfl⟩ : ∃ g, f = g + 1 := ⟨f - 1, by omega⟩
    have hcl := cma_le z
    have hcb := cma_byt z
    have hce := cma_end z
    have hu : wdsN (f + 1) z = if tokO (z.extract 0 (cma z)) 7 = 0 then none
      else if cma z = z.size then some [(tokO (z.extract 0 (cma z)) 7 : Int)]
      else if z.size ≤ cma z + 1 ∨ byt z (cma z + 1) ≠ 32 then none
      else (wdsN f (z.extract (cma z + 2) z.size)).map ((tokO (z.extract 0 (cma z)) 7 : Int) :: ·) := rfl
    obtain ⟨c, hc⟩ : ∃ c, cma z = c := ⟨_, rfl⟩
    obtain ⟨n, hn⟩ : ∃ n, z.size = n := ⟨_, rfl⟩
    obtain ⟨m, hm⟩ : ∃ m, A.length = m := ⟨_, rfl⟩
    rw [hc] at hcl hcb hce hu
    rw [hn] at hcl hce hu hf hzA
    rw [hm] at ho hzA
    rw [hu] at hw
    have hbz : m + n ≤ 10000 := by have := HS.out; omega
    have HO : Hid (wr.ownsRow q 3 1 u4 m (A.map (Value.int .i64))) := ho
    have HB : Hid (Below q W wr) := hb
    have HW : Hid _ := hw
    have HCB : Hid _ := hcb
    have HCE : Hid _ := hce
    have HF : Hid (n < f + 1 ∧ n + m ≤ s.size ∧ A.length = m) := ⟨hf, hzA, hm⟩
    have hqs : q ≤ wr.heap.size := by have := hb.size; omega
    clear hu hw ho hb hcb hce hf hzA hm hc
    obtain ⟨x, hx⟩ : ∃ x, z.extract 0 c = x := ⟨_, rfl⟩
    have HX : Hid (z.extract 0 c = x) := hx
    rw [hx] at HW
    clear hx
    by_cases hcn : c = n
    · have HCN : Hid (c = n) := hcn
      clear hcn
      go_wp2
      go_loopw [5] (fun v5 wy => ∃ k : Nat, k ≤ c ∧ v5 = .int .i64 k ∧ wy = wr) (fun v _ => c - (intOf v).toNat)
      case atStart => exact ⟨0, Nat.zero_le _, rfl, rfl⟩
      case round =>
        obtain ⟨k, hk, rfl, rfl⟩ := hrel
        by_cases hkc : k < c
        · have b1 : (k : Int) < (n : Int) := by omega
          have d1 : decide ((k : Int) < (n : Int)) = true := decide_eq_true b1
          have hkl : k < z.size := by omega
          have e1 : ((z[k].toNat : Int) != 44) = true := by
            have := HCB.out k hkc
            rw [byt_get z k hkl] at this
            simp; omega
          go_wp2
          exact ⟨⟨k + 1, hkc, congrArg (Value.int .i64) (Int.natCast_succ k).symm, trivial⟩, by show c - ((k : Int) + 1).toNat < c - ((k : Int)).toNat; omega⟩
        · obtain rfl : c = k := by omega
          have b1 : ¬ (c : Int) < (n : Int) := by have := HCN.out; omega
          have d1 : decide ((c : Int) < (n : Int)) = false := decide_eq_false b1
          go_wp2
          go_loopw [6, 7] (fun v6 v7 wy => ∃ k : Nat, k ≤ 7 ∧ v7 = .int .i64 ((k + 1 : Nat) : Int) ∧ v6 = .int .i64 (tokO x k : Nat) ∧ Below wr.heap.size wr wy) (fun _ v _ => 8 - (intOf v).toNat)
          case atStart => exact ⟨0, Nat.zero_le _, rfl, rfl, Below.refl _ _⟩
          case round =>
            obtain ⟨k, hk, rfl, rfl, hby⟩ := hrel
            have HBY : Hid _ := hby
            have htl := tokO_le x k
            clear hby
            rename_i wi _ _ _ _
            by_cases h7 : k < 7
            · have b7 : ((k + 1 : Nat) : Int) ≤ 7 := by omega
              have hu : tokO x (k + 1) = if wrd ((k + 1 : Nat) : Int) = x then k + 1 else tokO x k := rfl
              have HWD : Hid (∀ Y, _) := fun Y => word_any ((k + 1 : Nat) : Int) Y
              have hse := str_eq (wrd ((k + 1 : Nat) : Int)) x
              obtain ⟨wd, hwd⟩ : ∃ wd, wrd ((k + 1 : Nat) : Int) = wd := ⟨_, rfl⟩
              rw [hwd] at HWD hse hu
              obtain ⟨t, ht⟩ : ∃ t, ((k + 1 : Nat) : Int) = t := ⟨_, rfl⟩
              rw [ht] at b7 HWD ⊢
              have t1 : 1 ≤ t := by omega
              have HT' : Hid (((k + 1 : Nat) : Int) = t) := ht
              have HU : Hid _ := hu
              have hxe : z.extract 0 c = x := HX.out
              clear hu hwd ht
              go_wp2
              by_cases hwx : wd = x
              · rw [decide_eq_true hwx] at hse
                rw [if_pos hwx] at HU
                clear hwx
                refine Go.Pin.wp_region_cls (fun Y => Below wr.heap.size wr Y) (by kernel_rfl) (by kernel_rfl) ((Below.refl _ _).drew) ?_
                intro Sq fq hNq hRq hSq
                have CF := fun x => HWD.out (fq x)
                repeat (go_big_quiet_step (exact (CF _).mono (fun e w' h => ⟨h.1, hSq _ (by rw [h.2]; exact hRq _)⟩)))
                refine wpQuiet_nil ?_
                intro _ hw'
                obtain ⟨xq, hw''⟩ := hw'
                subst hw''
                have HYq := hRq xq
                generalize fq xq = Y at HYq ⊢
                clear hRq hSq hNq xq fq Sq CF hxe
                have HY : Hid (Below wr.heap.size wr Y) := HYq
                clear HYq
                go_wp2
                refine ⟨⟨k + 1, h7, ?_, ?_, HBY.out.trans (HY.out.mono HBY.out.size)⟩, ?_⟩
                · have := HT'.out; exact congrArg (Value.int .i64) (by omega)
                · rw [HU.out]; have := HT'.out; exact congrArg (Value.int .i64) (by omega)
                · show 8 - (t + 1).toNat < 8 - t.toNat; omega
              · rw [decide_eq_false hwx] at hse
                rw [if_neg hwx] at HU
                clear hwx
                refine Go.Pin.wp_region_cls (fun Y => Below wr.heap.size wr Y) (by kernel_rfl) (by kernel_rfl) ((Below.refl _ _).drew) ?_
                intro Sq fq hNq hRq hSq
                have CF := fun x => HWD.out (fq x)
                repeat (go_big_quiet_step (exact (CF _).mono (fun e w' h => ⟨h.1, hSq _ (by rw [h.2]; exact hRq _)⟩)))
                refine wpQuiet_nil ?_
                intro _ hw'
                obtain ⟨xq, hw''⟩ := hw'
                subst hw''
                have HYq := hRq xq
                generalize fq xq = Y at HYq ⊢
                clear hRq hSq hNq xq fq Sq CF hxe
                have HY : Hid (Below wr.heap.size wr Y) := HYq
                clear HYq
                go_wp2
                refine ⟨⟨k + 1, h7, ?_, ?_, HBY.out.trans (HY.out.mono HBY.out.size)⟩, ?_⟩
                · have := HT'.out; exact congrArg (Value.int .i64) (by omega)
                · rw [HU.out]
                · show 8 - (t + 1).toNat < 8 - t.toNat; omega
            · have b7 : ¬ ((k + 1 : Nat) : Int) ≤ 7 := by omega
              obtain rfl : k = 7 := by omega
              have hT7 := tokO_le x 7
              obtain ⟨T, hT⟩ : ∃ T, tokO x 7 = T := ⟨_, rfl⟩
              simp only [hT] at HW hT7 ⊢
              clear hT htl
              by_cases hT0 : T = 0
              · have e0 : ((T : Int) == 0) = true := by simp [hT0]
                have HN : Hid (wds s = none) := by show wds s = none; rw [HW.out, if_pos hT0]; rfl
                clear hT0
                go_wp2
                go_ret2
                exact ⟨HB.out.trans (HBY.out.mono hqs), .inl ⟨HN.out, rfl⟩⟩
              have e0 : ((T : Int) == 0) = false := by simp; omega
              rw [if_neg hT0] at HW
              have hoy := owns_below HBY.out HO.out
              have hby := HB.out.trans (HBY.out.mono hqs)
              have hqy : q ≤ wr.heap.size := by have := hby.size; omega
              have hst := hoy.alloc (.cells #[.int .i64 (T : Int)] 3)
              have hrow : (wr.alloc (.cells #[.int .i64 (T : Int)] 3)).heap[wr.heap.size]? = some (.cells [Value.int .i64 (T : Int)].toArray 3 (0, 0)) := heap_alloc_new _ _
              have HAP : Hid _ := own_app Tryz.underlying22 parts_int rfl (by decide) hst hrow rfl (fun u hu => by simp at hu; subst hu; rfl) (by omega) (by omega) (by rw [size_alloc]; omega)
              have HB2 : Hid (Below q W (wr.alloc (.cells #[.int .i64 (T : Int)] 3))) := hby.alloc hqy _
              have HST : Hid _ := hst
              have HAL : Hid ((A ++ [(T : Int)]).length = m + 1) := by show _ = _; rw [List.length_append, HF.out.2.2]; rfl
              clear hst hrow hoy hby hT0
              have ecn : ((c : Int) == (n : Int)) = true := by rw [HCN.out]; simp
              rw [if_pos HCN.out] at HW
              go_wp2_with (at_builtin; go_loud (refine wpList_app _ rfl (.tmp 33) (.tmp 35) 22 22 rfl _ _ rfl rfl HAP.out ?_; rintro v' w' ⟨h1, h2, h3⟩; have H7 : Hid (w'.ownsRow q 3 1 v' (m + 1) (A.map (Value.int .i64) ++ [.int .i64 (T : Int)])) := h1; have H8 : Hid (Below q W w') := grown_below HB2.out HST.out (Nat.le_refl _) (by rw [size_alloc]; omega) h2; clear h1 h2 h3))
              go_ret2
              refine ⟨H8.out, .inr ⟨v', A ++ [(T : Int)], by rw [HW.out]; rfl, by rw [HAL.out]; omega, rfl, ?_⟩⟩
              rw [HAL.out, List.map_append]
              exact H7.out
    · have HCN : Hid (c < n ∧ c ≠ n) := ⟨by omega, hcn⟩
      clear hcn
      go_wp2
      go_loopw [5] (fun v5 wy => ∃ k : Nat, k ≤ c ∧ v5 = .int .i64 k ∧ wy = wr) (fun v _ => c - (intOf v).toNat)
      case atStart => exact ⟨0, Nat.zero_le _, rfl, rfl⟩
      case round =>
        obtain ⟨k, hk, rfl, rfl⟩ := hrel
        by_cases hkc : k < c
        · have b1 : (k : Int) < (n : Int) := by omega
          have d1 : decide ((k : Int) < (n : Int)) = true := decide_eq_true b1
          have hkl : k < z.size := by omega
          have e1 : ((z[k].toNat : Int) != 44) = true := by
            have := HCB.out k hkc
            rw [byt_get z k hkl] at this
            simp; omega
          go_wp2
          exact ⟨⟨k + 1, hkc, congrArg (Value.int .i64) (Int.natCast_succ k).symm, trivial⟩, by show c - ((k : Int) + 1).toNat < c - ((k : Int)).toNat; omega⟩
        · obtain rfl : c = k := by omega
          have b1 : (c : Int) < (n : Int) := by have := HCN.out; omega
          have d1 : decide ((c : Int) < (n : Int)) = true := decide_eq_true b1
          have hkl : c < z.size := by omega
          have e1 : ((z[c].toNat : Int) != 44) = false := by
            have := HCE.out HCN.out.1
            rw [byt_get z c hkl] at this
            simp; omega
          go_wp2
          clear e1
          go_loopw [6, 7] (fun v6 v7 wy => ∃ k : Nat, k ≤ 7 ∧ v7 = .int .i64 ((k + 1 : Nat) : Int) ∧ v6 = .int .i64 (tokO x k : Nat) ∧ Below wr.heap.size wr wy) (fun _ v _ => 8 - (intOf v).toNat)
          case atStart => exact ⟨0, Nat.zero_le _, rfl, rfl, Below.refl _ _⟩
          case round =>
            obtain ⟨k, hk, rfl, rfl, hby⟩ := hrel
            have HBY : Hid _ := hby
            have htl := tokO_le x k
            clear hby
            rename_i wi _ _ _ _
            by_cases h7 : k < 7
            · have b7 : ((k + 1 : Nat) : Int) ≤ 7 := by omega
              have hu : tokO x (k + 1) = if wrd ((k + 1 : Nat) : Int) = x then k + 1 else tokO x k := rfl
              have HWD : Hid (∀ Y, _) := fun Y => word_any ((k + 1 : Nat) : Int) Y
              have hse := str_eq (wrd ((k + 1 : Nat) : Int)) x
              obtain ⟨wd, hwd⟩ : ∃ wd, wrd ((k + 1 : Nat) : Int) = wd := ⟨_, rfl⟩
              rw [hwd] at HWD hse hu
              obtain ⟨t, ht⟩ : ∃ t, ((k + 1 : Nat) : Int) = t := ⟨_, rfl⟩
              rw [ht] at b7 HWD ⊢
              have t1 : 1 ≤ t := by omega
              have HT' : Hid (((k + 1 : Nat) : Int) = t) := ht
              have HU : Hid _ := hu
              have hxe : z.extract 0 c = x := HX.out
              clear hu hwd ht
              go_wp2
              by_cases hwx : wd = x
              · rw [decide_eq_true hwx] at hse
                rw [if_pos hwx] at HU
                clear hwx
                refine Go.Pin.wp_region_cls (fun Y => Below wr.heap.size wr Y) (by kernel_rfl) (by kernel_rfl) ((Below.refl _ _).drew) ?_
                intro Sq fq hNq hRq hSq
                have CF := fun x => HWD.out (fq x)
                repeat (go_big_quiet_step (exact (CF _).mono (fun e w' h => ⟨h.1, hSq _ (by rw [h.2]; exact hRq _)⟩)))
                refine wpQuiet_nil ?_
                intro _ hw'
                obtain ⟨xq, hw''⟩ := hw'
                subst hw''
                have HYq := hRq xq
                generalize fq xq = Y at HYq ⊢
                clear hRq hSq hNq xq fq Sq CF hxe
                have HY : Hid (Below wr.heap.size wr Y) := HYq
                clear HYq
                go_wp2
                refine ⟨⟨k + 1, h7, ?_, ?_, HBY.out.trans (HY.out.mono HBY.out.size)⟩, ?_⟩
                · have := HT'.out; exact congrArg (Value.int .i64) (by omega)
                · rw [HU.out]; have := HT'.out; exact congrArg (Value.int .i64) (by omega)
                · show 8 - (t + 1).toNat < 8 - t.toNat; omega
              · rw [decide_eq_false hwx] at hse
                rw [if_neg hwx] at HU
                clear hwx
                refine Go.Pin.wp_region_cls (fun Y => Below wr.heap.size wr Y) (by kernel_rfl) (by kernel_rfl) ((Below.refl _ _).drew) ?_
                intro Sq fq hNq hRq hSq
                have CF := fun x => HWD.out (fq x)
                repeat (go_big_quiet_step (exact (CF _).mono (fun e w' h => ⟨h.1, hSq _ (by rw [h.2]; exact hRq _)⟩)))
                refine wpQuiet_nil ?_
                intro _ hw'
                obtain ⟨xq, hw''⟩ := hw'
                subst hw''
                have HYq := hRq xq
                generalize fq xq = Y at HYq ⊢
                clear hRq hSq hNq xq fq Sq CF hxe
                have HY : Hid (Below wr.heap.size wr Y) := HYq
                clear HYq
                go_wp2
                refine ⟨⟨k + 1, h7, ?_, ?_, HBY.out.trans (HY.out.mono HBY.out.size)⟩, ?_⟩
                · have := HT'.out; exact congrArg (Value.int .i64) (by omega)
                · rw [HU.out]
                · show 8 - (t + 1).toNat < 8 - t.toNat; omega
            · have b7 : ¬ ((k + 1 : Nat) : Int) ≤ 7 := by omega
              obtain rfl : k = 7 := by omega
              have hT7 := tokO_le x 7
              obtain ⟨T, hT⟩ : ∃ T, tokO x 7 = T := ⟨_, rfl⟩
              simp only [hT] at HW hT7 ⊢
              clear hT htl
              by_cases hT0 : T = 0
              · have e0 : ((T : Int) == 0) = true := by simp [hT0]
                have HN : Hid (wds s = none) := by show wds s = none; rw [HW.out, if_pos hT0]; rfl
                clear hT0
                go_wp2
                go_ret2
                exact ⟨HB.out.trans (HBY.out.mono hqs), .inl ⟨HN.out, rfl⟩⟩
              have e0 : ((T : Int) == 0) = false := by simp; omega
              rw [if_neg hT0] at HW
              have hoy := owns_below HBY.out HO.out
              have hby := HB.out.trans (HBY.out.mono hqs)
              have hqy : q ≤ wr.heap.size := by have := hby.size; omega
              have hst := hoy.alloc (.cells #[.int .i64 (T : Int)] 3)
              have hrow : (wr.alloc (.cells #[.int .i64 (T : Int)] 3)).heap[wr.heap.size]? = some (.cells [Value.int .i64 (T : Int)].toArray 3 (0, 0)) := heap_alloc_new _ _
              have HAP : Hid _ := own_app Tryz.underlying22 parts_int rfl (by decide) hst hrow rfl (fun u hu => by simp at hu; subst hu; rfl) (by omega) (by omega) (by rw [size_alloc]; omega)
              have HB2 : Hid (Below q W (wr.alloc (.cells #[.int .i64 (T : Int)] 3))) := hby.alloc hqy _
              have HST : Hid _ := hst
              have HAL : Hid ((A ++ [(T : Int)]).length = m + 1) := by show _ = _; rw [List.length_append, HF.out.2.2]; rfl
              clear hst hrow hoy hby hT0
              have ecn : ((c : Int) == (n : Int)) = false := by have := HCN.out; simp; omega
              rw [if_neg HCN.out.2] at HW
              by_cases hbad : n ≤ c + 1 ∨ byt z (c + 1) ≠ 32
              · rw [if_pos hbad] at HW
                have HN : Hid (wds s = none) := by show wds s = none; rw [HW.out]; rfl
                by_cases hb1 : n ≤ c + 1
                · have g1 : (n : Int) ≤ (c : Int) + 1 := by omega
                  have g2 : decide ((n : Int) ≤ (c : Int) + 1) = true := decide_eq_true g1
                  clear hbad
                  go_wp2_with (at_builtin; go_loud (refine wpList_app _ rfl (.tmp 33) (.tmp 35) 22 22 rfl _ _ rfl rfl HAP.out ?_; rintro v' w' ⟨h1, h2, h3⟩; have H7 : Hid (w'.ownsRow q 3 1 v' (m + 1) (A.map (Value.int .i64) ++ [.int .i64 (T : Int)])) := h1; have H8 : Hid (Below q W w') := grown_below HB2.out HST.out (Nat.le_refl _) (by rw [size_alloc]; omega) h2; clear h1 h2 h3))
                  go_ret2
                  exact ⟨H8.out, .inl ⟨HN.out, rfl⟩⟩
                · have g1 : ¬ (n : Int) ≤ (c : Int) + 1 := by omega
                  have g2 : decide ((n : Int) ≤ (c : Int) + 1) = false := decide_eq_false g1
                  have hcl1 : c + 1 < z.size := by omega
                  have g3 : ((z[c + 1].toNat : Int) != 32) = true := by
                    have := hbad.resolve_left hb1
                    rw [byt_get z (c + 1) hcl1] at this
                    simp; omega
                  clear hbad
                  go_wp2_with (at_builtin; go_loud (refine wpList_app _ rfl (.tmp 33) (.tmp 35) 22 22 rfl _ _ rfl rfl HAP.out ?_; rintro v' w' ⟨h1, h2, h3⟩; have H7 : Hid (w'.ownsRow q 3 1 v' (m + 1) (A.map (Value.int .i64) ++ [.int .i64 (T : Int)])) := h1; have H8 : Hid (Below q W w') := grown_below HB2.out HST.out (Nat.le_refl _) (by rw [size_alloc]; omega) h2; clear h1 h2 h3))
                  go_ret2
                  exact ⟨H8.out, .inl ⟨HN.out, rfl⟩⟩
              · rw [if_neg hbad] at HW
                have hb1 : ¬ n ≤ c + 1 := fun h => hbad (.inl h)
                have hb2 : byt z (c + 1) = 32 := by
                  by_cases h : byt z (c + 1) = 32
                  · exact h
                  · exact absurd (.inr h) hbad
                have g1 : ¬ (n : Int) ≤ (c : Int) + 1 := by omega
                have g2 : decide ((n : Int) ≤ (c : Int) + 1) = false := decide_eq_false g1
                have hcl1 : c + 1 < z.size := by omega
                have g3 : ((z[c + 1].toNat : Int) != 32) = false := by
                  rw [byt_get z (c + 1) hcl1] at hb2
                  simp; omega
                have HXZ : Hid ((z.extract (c + 2) n).size ≤ n - (c + 2)) := extract_size z (c + 2) n
                clear hbad hb2
                go_wp2_with (at_builtin; go_loud (refine wpList_app _ rfl (.tmp 33) (.tmp 35) 22 22 rfl _ _ rfl rfl HAP.out ?_; rintro v' w' ⟨h1, h2, h3⟩; have H7 : Hid (w'.ownsRow q 3 1 v' (m + 1) (A.map (Value.int .i64) ++ [.int .i64 (T : Int)])) := h1; have H8 : Hid (Below q W w') := grown_below HB2.out HST.out (Nat.le_refl _) (by rw [size_alloc]; omega) h2; clear h1 h2 h3))
                refine ⟨⟨f, z.extract (c + 2) n, A ++ [(T : Int)], rfl, ?_, ?_, ?_, ?_, H8.out⟩, ?_⟩
                · have := HXZ.out; have := HF.out; omega
                · have := HXZ.out; have := HF.out; rw [HAL.out]; omega
                · rw [HW.out, Option.map_map]
                  congr 1
                  funext y
                  simp
                · rw [HAL.out, List.map_append]
                  exact H7.out
                · show (z.extract (c + 2) n).size < z.size
                  have := HXZ.out
                  omega
end Go.Proofs.YtmlcgcmoioekpaaGreatDoor
namespace Go.Proofs.YtmlcgcmoioekpaaGreatDoor
set_option linter.unusedSimpArgs false
set_option linter.unusedVariables false
open Go.ChangeShapes Go.WideShapes Go.ChangeAt Go.RowKit Go.Pin Go.Pat
theorem take5 {s : ByteArray} {a b c d e : UInt8} (h : s.extract 0 5 = ⟨#[a, b, c, d, e]⟩) : byt s 2 = c.toNat := by
  obtain ⟨⟨l⟩⟩ := s
  rw [Go.ByteArray.extract_mk] at h
  injection h with h
  injection h with h
  have h2 := congrArg (fun t : List UInt8 => t.getD 2 0) h
  unfold byt
  simp only [List.drop_zero, List.getD_eq_getElem?_getD, List.getElem?_take] at h2 ⊢
  simp at h2
  rw [h2]
/-- what line answers -/
def LnP (s : ByteArray) (q : Nat) (W : World) (e : Ending) (w' : World) : Prop := Below q W w' ∧ ((lin s = none ∧ ∃ x : Int, e = .returned (.tuple #[.agg #[.int .i64 x, .slice none 0 0], .bool false])) ∨ ∃ (v : Value) (f : Int) (C : List Int), lin s = some (f, C) ∧ (f = 0 ∨ f = 1) ∧ C.length ≤ 100000 ∧ e = .returned (.tuple #[.agg #[.int .i64 f, v], .bool true]) ∧ w'.ownsRow (q + 1) 3 1 v C.length (C.map (Value.int .i64)))
theorem il2 (a b : Value) : (Tryz.prog.info? 58).map (·.size) = some (#[a, b] : Array Value).size := by kernel_rfl
theorem strA (s : ByteArray) : (s.toList == [32, 32, 45, 62, 32]) = decide (s = hdA) := by rw [← str_eq, show hdA.toList = [32, 32, 45, 62, 32] by simp [hdA]]
theorem strB (s : ByteArray) : (s.toList == [32, 32, 60, 45, 32]) = decide (s = hdB) := by rw [← str_eq, show hdB.toList = [32, 32, 60, 45, 32] by simp [hdB]]
abbrev zLn : Array Value := #[.int .i64 0, .slice none 0 0]
theorem words_none {s : ByteArray} {W : World} (hs : s.size ≤ 10000) (h : wds s = none) : Calls Tryz.prog 83 #[.string s] W fun e w' => e = .returned (.tuple #[.slice none 0 0, .bool false]) ∧ Below W.heap.size W w' :=
  (words_any s W hs).mono fun e w' k => by
    rcases k.2 with ⟨_, k2⟩ | ⟨v, C, k1, _⟩
    · exact ⟨k2, k.1⟩
    · rw [h] at k1; cases k1
theorem words_some {s : ByteArray} {W : World} {C : List Int} (hs : s.size ≤ 10000) (h : wds s = some C) : Calls Tryz.prog 83 #[.string s] W fun e w' => ∃ a cap, e = .returned (.tuple #[.slice a C.length cap, .bool true]) ∧ C.length ≤ 100000 ∧ w'.ownsRow W.heap.size 3 1 (.slice a C.length cap) C.length (C.map (Value.int .i64)) ∧ Below W.heap.size W w' :=
  (words_any s W hs).mono fun e w' k => by
    rcases k.2 with ⟨k1, _⟩ | ⟨v, C', k1, k2, k3, k4⟩
    · rw [h] at k1; cases k1
    · rw [h] at k1
      injection k1 with k1
      subst k1
      obtain ⟨a, cap, rfl⟩ := own_slice' k4
      exact ⟨a, cap, k3, k2, k4, k.1⟩
theorem owns_setRow {w : World} {q b : Nat} {e : TypeId} {k n : Nat} {v : Value} {xs : List Value} {cs : Array Value} (h : w.ownsRow b e k v n xs) (hq : q < b) : (w.setRow q cs).ownsRow b e k v n xs := by
  refine ⟨h.1, ?_⟩
  rcases h.2 with h0 | ⟨g, cap, cur, rfl, h1, hg, hr⟩
  · exact .inl h0
  · exact .inr ⟨g, cap, cur, rfl, h1, (setRow_other _ _ _ _ (by omega)).trans hg, hr⟩
set_option maxRecDepth 100000 in
set_option maxHeartbeats 4000000 in
theorem line_any (s : ByteArray) (W : World) (hs : s.size ≤ 10000) :
    Calls Tryz.prog 49 #[.string s] W fun e w' => LnP s W.heap.size W e w' := by
  obtain ⟨q, hq⟩ : ∃ q, W.heap.size = q := ⟨_, rfl⟩
  have hrow0 : (W.alloc (.cells zLn 58)).heap[q]? = some (.cells zLn 58) := by rw [← hq]; exact heap_alloc_new _ _
  have hb0 : Below q W (W.alloc (.cells zLn 58)) := by rw [← hq]; exact (Below.refl _ _).alloc (Nat.le_refl _) _
  have hs0 : (W.alloc (.cells zLn 58)).heap.size = q + 1 := by rw [size_alloc, hq]
  obtain ⟨W0, hW0⟩ : ∃ W0, W.alloc (.cells #[.int .i64 0, .slice none 0 0] 58) = W0 := ⟨_, rfl⟩
  have hW0' : W.alloc (.cells zLn 58) = W0 := hW0
  rw [hW0'] at hrow0 hb0 hs0
  have H0 : Hid (Below q W W0 ∧ W0.heap.size = q + 1) := ⟨hb0, hs0⟩
  have sA := strA (s.extract 0 5)
  have sB := strB (s.extract 0 5)
  have hl : lin s = if s.size < 5 then none else if s.extract 0 5 = hdA then (wds (s.extract 5 s.size)).map fun l => (0, l) else if s.extract 0 5 = hdB then (wds (s.extract 5 s.size)).map fun l => (1, l) else none := rfl
  obtain ⟨n, hn⟩ : ∃ n, s.size = n := ⟨_, rfl⟩
  rw [hn] at hl hs
  rw [hq]
  have hzz : (s.extract 5 n).size ≤ 10000 := by have := extract_size s 5 n; omega
  clear hb0 hs0 hW0'
  by_cases h5 : n < 5
  · rw [if_pos h5] at hl
    have b5 : (n : Int) < 5 := by omega
    have d5 : decide ((n : Int) < 5) = true := decide_eq_true b5
    have HL : Hid (lin s = none) := hl
    clear hl sA sB h5
    go_enter Tryz.func49, Tryz.ntmps49
    go_wp2_with (with_reducible refine at_list ?_; refine wpList_store_row rfl 58 (.tmp 2) (.tmp 20) rfl q zLn rfl rfl 58 zLn hrow0 (il2 _ _) rfl (by simp [zLn, Value.oneCell']) ?_)
    try simp only [Exit.inBlock, Exit.then]
    refine bodyPost_ret (v := .tuple #[.agg zLn, .bool false]) ?_ rfl ⟨below_setRow H0.out.1 _ (Nat.le_refl _) _, .inl ⟨HL.out, 0, rfl⟩⟩
    exact results_row_tmp (P := Tryz.prog) (fn := Tryz.f49) (p := 2) (u := 3) (ty := 58) rfl _ _ q 58 _ (0, 0) _ _ rfl (setRow_heap _ _ _ _ 58 _ hrow0) Tryz.underlying58 rfl (il2 _ _) rfl
  rw [if_neg h5] at hl
  have b5 : ¬ (n : Int) < 5 := by omega
  have d5 : decide ((n : Int) < 5) = false := decide_eq_false b5
  by_cases hA : s.extract 0 5 = hdA
  · have hby := take5 hA
    have h2l : 2 < s.size := by omega
    rw [byt_get s 2 h2l] at hby
    have e2 : ((s[2].toNat : Int) == 60) = false := by rw [hby]; rfl
    rw [decide_eq_true hA] at sA
    rw [if_pos hA] at hl
    clear hA hby sB
    cases hwd : wds (s.extract 5 n) with
    | none =>
      have HL : Hid (lin s = none) := by show lin s = none; rw [hl, hwd]; rfl
      have CW := words_none (W := W0) hzz hwd
      rw [H0.out.2] at CW
      obtain ⟨z, hz⟩ : ∃ z, s.extract 5 n = z := ⟨_, rfl⟩
      rw [hz] at CW
      clear hl hwd h5 hzz
      go_enter Tryz.func49, Tryz.ntmps49
      go_upto_region 7 with (go_at_call 83; refine CW.mono ?_; rintro e w1 ⟨rfl, hb⟩; have HB1 : Hid (Below (q + 1) W0 w1) := hb; have hrow1 : w1.heap[q]? = some (.cells zLn 58) := (hb.block q (by omega)).trans hrow0; clear hb CW)
      go_wp2_with (with_reducible refine at_list ?_; refine wpList_store_row rfl 58 (.tmp 2) (.tmp 32) rfl q #[.int .i64 0, .slice none 0 0] rfl rfl 58 zLn hrow1 (il2 _ _) rfl (by simp [zLn, Value.oneCell']) ?_)
      try simp only [Exit.inBlock, Exit.then]
      refine bodyPost_ret (v := .tuple #[.agg #[.int .i64 0, .slice none 0 0], .bool false]) ?_ rfl ⟨below_setRow (H0.out.1.trans (HB1.out.mono (by omega))) _ (Nat.le_refl _) _, .inl ⟨HL.out, 0, rfl⟩⟩
      exact results_row_tmp (P := Tryz.prog) (fn := Tryz.f49) (p := 2) (u := 3) (ty := 58) rfl _ _ q 58 _ (0, 0) _ _ rfl (setRow_heap _ _ _ _ 58 _ hrow1) Tryz.underlying58 rfl (il2 _ _) rfl
    | some C =>
      have HL : Hid (lin s = some (0, C)) := by show lin s = _; rw [hl, hwd]; rfl
      have CW := words_some (W := W0) hzz hwd
      rw [H0.out.2] at CW
      obtain ⟨z, hz⟩ : ∃ z, s.extract 5 n = z := ⟨_, rfl⟩
      rw [hz] at CW
      clear hl hwd h5 hzz
      go_enter Tryz.func49, Tryz.ntmps49
      go_upto_region 7 with (go_at_call 83; refine CW.mono ?_; rintro e w1 ⟨ac, cc, rfl, hcl, hoc, hb⟩; have HB1 : Hid (Below (q + 1) W0 w1) := hb; have HC1 : Hid (C.length ≤ 100000 ∧ w1.ownsRow (q + 1) 3 1 (.slice ac C.length cc) C.length (C.map (Value.int .i64))) := ⟨hcl, hoc⟩; have hrow1 : w1.heap[q]? = some (.cells zLn 58) := (hb.block q (by omega)).trans hrow0; clear hb CW hcl hoc)
      go_wp2_with (with_reducible refine at_list ?_; refine wpList_store_row rfl 58 (.tmp 2) (.tmp 32) rfl q #[.int .i64 0, .slice ac C.length cc] rfl rfl 58 zLn hrow1 (il2 _ _) rfl (by simp [Value.oneCell']) ?_)
      try simp only [Exit.inBlock, Exit.then]
      refine bodyPost_ret (v := .tuple #[.agg #[.int .i64 0, .slice ac C.length cc], .bool true]) ?_ rfl ⟨below_setRow (H0.out.1.trans (HB1.out.mono (by omega))) _ (Nat.le_refl _) _, .inr ⟨.slice ac C.length cc, 0, C, HL.out, by decide, HC1.out.1, rfl, owns_setRow HC1.out.2 (by omega)⟩⟩
      exact results_row_tmp (P := Tryz.prog) (fn := Tryz.f49) (p := 2) (u := 3) (ty := 58) rfl _ _ q 58 _ (0, 0) _ _ rfl (setRow_heap _ _ _ _ 58 _ hrow1) Tryz.underlying58 rfl (il2 _ _) rfl
  by_cases hB : s.extract 0 5 = hdB
  · have hby := take5 hB
    have h2l : 2 < s.size := by omega
    rw [byt_get s 2 h2l] at hby
    have e2 : ((s[2].toNat : Int) == 60) = true := by rw [hby]; rfl
    rw [decide_eq_false hA] at sA
    rw [decide_eq_true hB] at sB
    rw [if_neg hA, if_pos hB] at hl
    clear hA hB hby
    cases hwd : wds (s.extract 5 n) with
    | none =>
      have HL : Hid (lin s = none) := by show lin s = none; rw [hl, hwd]; rfl
      have CW := words_none (W := W0) hzz hwd
      rw [H0.out.2] at CW
      obtain ⟨z, hz⟩ : ∃ z, s.extract 5 n = z := ⟨_, rfl⟩
      rw [hz] at CW
      clear hl hwd h5 hzz
      go_enter Tryz.func49, Tryz.ntmps49
      go_upto_region 7 with (go_at_call 83; refine CW.mono ?_; rintro e w1 ⟨rfl, hb⟩; have HB1 : Hid (Below (q + 1) W0 w1) := hb; have hrow1 : w1.heap[q]? = some (.cells zLn 58) := (hb.block q (by omega)).trans hrow0; clear hb CW)
      go_wp2_with (with_reducible refine at_list ?_; refine wpList_store_row rfl 58 (.tmp 2) (.tmp 32) rfl q #[.int .i64 1, .slice none 0 0] rfl rfl 58 zLn hrow1 (il2 _ _) rfl (by simp [zLn, Value.oneCell']) ?_)
      try simp only [Exit.inBlock, Exit.then]
      refine bodyPost_ret (v := .tuple #[.agg #[.int .i64 1, .slice none 0 0], .bool false]) ?_ rfl ⟨below_setRow (H0.out.1.trans (HB1.out.mono (by omega))) _ (Nat.le_refl _) _, .inl ⟨HL.out, 1, rfl⟩⟩
      exact results_row_tmp (P := Tryz.prog) (fn := Tryz.f49) (p := 2) (u := 3) (ty := 58) rfl _ _ q 58 _ (0, 0) _ _ rfl (setRow_heap _ _ _ _ 58 _ hrow1) Tryz.underlying58 rfl (il2 _ _) rfl
    | some C =>
      have HL : Hid (lin s = some (1, C)) := by show lin s = _; rw [hl, hwd]; rfl
      have CW := words_some (W := W0) hzz hwd
      rw [H0.out.2] at CW
      obtain ⟨z, hz⟩ : ∃ z, s.extract 5 n = z := ⟨_, rfl⟩
      rw [hz] at CW
      clear hl hwd h5 hzz
      go_enter Tryz.func49, Tryz.ntmps49
      go_upto_region 7 with (go_at_call 83; refine CW.mono ?_; rintro e w1 ⟨ac, cc, rfl, hcl, hoc, hb⟩; have HB1 : Hid (Below (q + 1) W0 w1) := hb; have HC1 : Hid (C.length ≤ 100000 ∧ w1.ownsRow (q + 1) 3 1 (.slice ac C.length cc) C.length (C.map (Value.int .i64))) := ⟨hcl, hoc⟩; have hrow1 : w1.heap[q]? = some (.cells zLn 58) := (hb.block q (by omega)).trans hrow0; clear hb CW hcl hoc)
      go_wp2_with (with_reducible refine at_list ?_; refine wpList_store_row rfl 58 (.tmp 2) (.tmp 32) rfl q #[.int .i64 1, .slice ac C.length cc] rfl rfl 58 zLn hrow1 (il2 _ _) rfl (by simp [Value.oneCell']) ?_)
      try simp only [Exit.inBlock, Exit.then]
      refine bodyPost_ret (v := .tuple #[.agg #[.int .i64 1, .slice ac C.length cc], .bool true]) ?_ rfl ⟨below_setRow (H0.out.1.trans (HB1.out.mono (by omega))) _ (Nat.le_refl _) _, .inr ⟨.slice ac C.length cc, 1, C, HL.out, by decide, HC1.out.1, rfl, owns_setRow HC1.out.2 (by omega)⟩⟩
      exact results_row_tmp (P := Tryz.prog) (fn := Tryz.f49) (p := 2) (u := 3) (ty := 58) rfl _ _ q 58 _ (0, 0) _ _ rfl (setRow_heap _ _ _ _ 58 _ hrow1) Tryz.underlying58 rfl (il2 _ _) rfl
  rw [decide_eq_false hA] at sA
  rw [decide_eq_false hB] at sB
  rw [if_neg hA, if_neg hB] at hl
  have HL : Hid (lin s = none) := hl
  clear hl hA hB hzz h5
  go_enter Tryz.func49, Tryz.ntmps49
  go_wp2_with (with_reducible refine at_list ?_; refine wpList_store_row rfl 58 (.tmp 2) (.tmp 20) rfl q zLn rfl rfl 58 zLn hrow0 (il2 _ _) rfl (by simp [zLn, Value.oneCell']) ?_)
  try simp only [Exit.inBlock, Exit.then]
  refine bodyPost_ret (v := .tuple #[.agg zLn, .bool false]) ?_ rfl ⟨below_setRow H0.out.1 _ (Nat.le_refl _) _, .inl ⟨HL.out, 0, rfl⟩⟩
  exact results_row_tmp (P := Tryz.prog) (fn := Tryz.f49) (p := 2) (u := 3) (ty := 58) rfl _ _ q 58 _ (0, 0) _ _ rfl (setRow_heap _ _ _ _ 58 _ hrow0) Tryz.underlying58 rfl (il2 _ _) rfl
end Go.Proofs.YtmlcgcmoioekpaaGreatDoor
