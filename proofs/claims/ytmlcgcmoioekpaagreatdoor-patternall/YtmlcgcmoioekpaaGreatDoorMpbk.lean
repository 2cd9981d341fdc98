import Derived.Test.YtmlcgcmoioekpaaGreatDoorMpbj
import Derived.Test.YtmlcgcmoioekpaaGreatDoorMpai
import Derived.Test.YtmlcgcmoioekpaaGreatDoorMpaj
namespace Go.Proofs.YtmlcgcmoioekpaaGreatDoor
set_option linter.unusedSimpArgs false
set_option linter.unusedVariables false
open Go.ChangeShapes Go.WideShapes Go.ChangeAt Go.RowKit Go.Pin Go.Pat
theorem str_inj {a b : ByteArray} (h : a.toList = b.toList) : a = b := by
  rw [Go.ByteArray.toList_eq, Go.ByteArray.toList_eq] at h
  obtain ⟨⟨x⟩⟩ := a
  obtain ⟨⟨y⟩⟩ := b
  simp only at h
  rw [h]
theorem str_eq (a b : ByteArray) : (a.toList == b.toList) = decide (a = b) := by
  by_cases h : a = b
  · rw [h]; simp
  · rw [decide_eq_false h]
    cases e : a.toList == b.toList with
    | false => rfl
    | true => exact absurd (str_inj (by simpa using e)) h
theorem own_mono {w : World} {b c : Nat} {e : TypeId} {k n : Nat} {v : Value} {xs : List Value} (h : w.ownsRow b e k v n xs) (hc : c ≤ b) : w.ownsRow c e k v n xs := by
  refine ⟨h.1, ?_⟩
  rcases h.2 with h0 | ⟨g, cap, cur, e', h1, hr⟩
  · exact .inl h0
  · exact .inr ⟨g, cap, cur, e', Nat.le_trans hc h1, hr⟩
theorem RdS.at {w : World} {a : Option Addr} {n cap : Nat} {L : List ByteArray} (h : RdS w (.slice a n cap) L) {j : Nat} (hj : j < n) : n = L.length ∧ ∃ b o, a = some ⟨b, o, none⟩ ∧ ∀ W, Below w.heap.size w W → W.cell? ⟨b, o + j, none⟩ = some (.string (L.getD j ⟨#[]⟩)) := by
  obtain ⟨a', c', e, h3⟩ := h
  injection e with e1 e2 e3
  subst e1 e2 e3
  obtain ⟨b, o, g1, g2⟩ := h3 j hj
  exact ⟨rfl, b, o, g1, fun W hW => cell_below hW g2⟩
def tkL (L : List ByteArray) (i : Nat) : List Int := (L.take i).flatMap fun x => tokW x 7
theorem tkL_snoc (L : List ByteArray) {i : Nat} (h : i < L.length) : tkL L (i + 1) = tkL L i ++ tokW (L.getD i ⟨#[]⟩) 7 := by
  unfold tkL
  rw [List.take_add_one, List.getElem?_eq_getElem h, List.flatMap_append]
  simp [List.getD, h]
theorem tokW_len (x : ByteArray) (k : Nat) : (tokW x k).length ≤ k := by
  induction k with
  | zero => exact Nat.le_refl _
  | succ k ih =>
    unfold tokW
    split
    · rw [List.length_append, List.length_singleton]; omega
    · omega
theorem tkL_len (L : List ByteArray) (i : Nat) : (tkL L i).length ≤ 7 * i := by
  induction i with
  | zero => simp [tkL]
  | succ i ih =>
    by_cases h : i < L.length
    · rw [tkL_snoc L h, List.length_append]
      have := tokW_len (L.getD i ⟨#[]⟩) 7
      omega
    · have : tkL L (i + 1) = tkL L i := by unfold tkL; rw [List.take_of_length_le (by omega), List.take_of_length_le (by omega)]
      rw [this]
      omega
set_option maxRecDepth 100000 in
set_option maxHeartbeats 4000000 in
theorem tokens_any (s : ByteArray) (W : World) (hs : s.size ≤ 100000) :
    Calls Tryz.prog 54 #[.string s] W fun e w' => ∃ v, e = .returned v ∧ w'.ownsRow W.heap.size 3 1 v (toks s).length ((toks s).map (Value.int .i64)) ∧ Below W.heap.size W w' := by
  have CS := split_any s 32 W hs
  have hsl := (splN_le s 32 (s.size + 1)).2
  obtain ⟨q, hq⟩ : ∃ q, W.heap.size = q := ⟨_, rfl⟩
  rw [hq] at CS
  rw [hq]
  have heq := str_eq s ⟨#[]⟩
  by_cases h0 : s.size = 0
  · have h1 : s = ⟨#[]⟩ := by
      obtain ⟨⟨l⟩⟩ := s
      have : l.length = 0 := h0
      rw [List.length_eq_zero_iff.1 this]
    have HT : Hid (toks s = []) := by show toks s = []; unfold toks; rw [if_pos h0]
    subst h1
    clear CS hsl
    go_enter Tryz.func54, Tryz.ntmps54
    go_wp2
    go_ret
    refine ⟨_, rfl, ?_, Below.refl _ _⟩
    rw [HT.out]
    exact own_nil0 _ _ _ _
  have h1 : s ≠ ⟨#[]⟩ := fun h => h0 (by rw [h]; rfl)
  rw [decide_eq_false h1] at heq
  have heq2 : (s.toList == []) = false := by rw [show ([] : List UInt8) = (⟨#[]⟩ : ByteArray).toList by simp]; exact heq
  have heq3 : s.toList.isEmpty = false := by
    cases h : s.toList with
    | nil => rw [h] at heq2; simp at heq2
    | cons a b => rfl
  have HT : Hid (toks s = tkL (spl s 32) (spl s 32).length) := by show toks s = _; unfold toks tkL; rw [if_neg h0, List.take_length]
  have hsl' : (spl s 32).length ≤ 100001 := by unfold spl; omega
  generalize spl s 32 = L at *
  obtain ⟨n, hn⟩ : ∃ n, L.length = n := ⟨_, rfl⟩
  rw [hn] at CS hsl' HT
  have HL : Hid (L.length = n) := hn
  clear hsl h0 h1 heq hn
  go_enter Tryz.func54, Tryz.ntmps54
  go_wp2_with (go_at_call 53; refine CS.mono ?_; rintro e w1 ⟨v, rfl, ho, hb⟩; obtain ⟨a, cap, rfl⟩ := own_slice' ho; have HO : Hid (w1.ownsRow q 9 1 (.slice a n cap) n (L.map Value.string)) := ho; have HB : Hid (Below q W w1) := hb; clear ho hb CS)
  have hrd : RdS w1 (.slice a n cap) L := own_strs (by rw [HL.out]; exact HO.out)
  have HRD : Hid (RdS w1 (.slice a n cap) L) := hrd
  have hq1 : q ≤ w1.heap.size := by have := HB.out.size; omega
  clear hrd HO
  obtain ⟨q1, hqq⟩ : ∃ q1, w1.heap.size = q1 := ⟨_, rfl⟩
  rw [hqq] at hq1
  go_loopw [3, 5] (fun v3 v5 wr => ∃ i : Nat, i ≤ n ∧ v5 = .int .i64 i ∧ wr.ownsRow q1 3 1 v3 (tkL L i).length ((tkL L i).map (Value.int .i64)) ∧ Below q1 w1 wr) (fun _ v _ => n - (intOf v).toNat)
  case atStart => exact ⟨0, Nat.zero_le _, rfl, own_nil0 _ _ _ _, Below.refl _ _⟩
  case round =>
    obtain ⟨i, hi, rfl, ho, hb⟩ := hrel
    have HO : Hid _ := ho
    have HB1 : Hid (Below q1 w1 wr) := hb
    by_cases hlt : i < n
    · have b1 : (i : Int) < (n : Int) := by omega
      obtain ⟨-, g, o, rfl, hc⟩ := HRD.out.at hlt
      rw [hqq] at hc
      have HC : Hid _ := hc
      have hsn := tkL_snoc L (i := i) (by rw [HL.out]; exact hlt)
      have hln := tkL_len L i
      obtain ⟨x, hx⟩ : ∃ x, L.getD i ⟨#[]⟩ = x := ⟨_, rfl⟩
      rw [hx] at hsn HC
      have HSN : Hid _ := hsn
      obtain ⟨T, hT⟩ : ∃ T, tkL L i = T := ⟨_, rfl⟩
      rw [hT] at HO HSN hln
      clear ho hb hc hsn hx hT
      go_wp2
      go_loopw [3, 6] (fun v3 v6 wy => ∃ k : Nat, k ≤ 7 ∧ v6 = .int .i64 ((k + 1 : Nat) : Int) ∧ wy.ownsRow q1 3 1 v3 (T ++ tokW x k).length ((T ++ tokW x k).map (Value.int .i64)) ∧ Below q1 w1 wy) (fun _ v _ => 8 - (intOf v).toNat)
      case atStart => exact ⟨0, Nat.zero_le _, rfl, by rw [show tokW x 0 = [] from rfl, List.append_nil]; exact HO.out, HB1.out⟩
      case round =>
        obtain ⟨k, hk, rfl, ho, hb⟩ := hrel
        obtain ⟨m, hm⟩ : ∃ m, (T ++ tokW x k).length = m := ⟨_, rfl⟩
        have htl := tokW_len x k
        rw [hm] at ho
        have hmb : m ≤ 1000000 := by rw [← hm, List.length_append]; omega
        have HOY : Hid (wr.ownsRow q1 3 1 u3 m ((T ++ tokW x k).map (Value.int .i64))) := ho
        have HBY : Hid (Below q1 w1 wr) := hb
        have HM : Hid ((T ++ tokW x k).length = m) := hm
        clear ho hb hm htl
        by_cases h7 : k < 7
        · have b7 : ((k + 1 : Nat) : Int) ≤ 7 := by omega
          have hu : tokW x (k + 1) = if wrd ((k + 1 : Nat) : Int) = x then tokW x k ++ [((k + 1 : Nat) : Int)] else tokW x k := rfl
          have HWD : Hid (∀ Y, _) := fun Y => word_any ((k + 1 : Nat) : Int) Y
          have hse := str_eq (wrd ((k + 1 : Nat) : Int)) x
          obtain ⟨wd, hwd⟩ : ∃ wd, wrd ((k + 1 : Nat) : Int) = wd := ⟨_, rfl⟩
          rw [hwd] at HWD hse hu
          obtain ⟨t, ht⟩ : ∃ t, ((k + 1 : Nat) : Int) = t := ⟨_, rfl⟩
          rw [ht] at b7 hu HWD ⊢
          have t1 : 1 ≤ t := by omega
          have HT' : Hid (((k + 1 : Nat) : Int) = t) := ht
          have HU : Hid _ := hu
          clear hu hwd ht
          go_wp2
          by_cases hwx : wd = x
          · rw [decide_eq_true hwx] at hse
            rw [if_pos hwx] at HU
            clear hwx
            refine Go.Pin.wp_region_cls (fun Y => Below wr.heap.size wr Y) (by kernel_rfl) (by kernel_rfl) ((Below.refl _ _).drew) ?_
            intro Sq fq hNq hRq hSq
            have k0 := fun x => HC.out _ (HBY.out.trans ((hRq x).mono (by have := HBY.out.size; omega)))
            have CF := fun x => HWD.out (fq x)
            repeat (go_big_quiet_step (exact (CF _).mono (fun e w' h => ⟨h.1, hSq _ (by rw [h.2]; exact hRq _)⟩)))
            refine wpQuiet_nil ?_
            intro _ hw'
            obtain ⟨xq, hw''⟩ := hw'
            subst hw''
            have HYq := hRq xq
            generalize fq xq = Y at HYq ⊢
            clear hRq hSq hNq xq fq Sq k0 CF
            have HY : Hid (Below wr.heap.size wr Y) := HYq
            have hoy := owns_below HYq HOY.out
            have hby := HBY.out.trans (HYq.mono (by have := HBY.out.size; omega))
            have hqy : q1 ≤ Y.heap.size := by have := hby.size; omega
            have hst := hoy.alloc (.cells #[.int .i64 t] 3)
            have hrow : (Y.alloc (.cells #[.int .i64 t] 3)).heap[Y.heap.size]? = some (.cells [Value.int .i64 t].toArray 3 (0, 0)) := heap_alloc_new _ _
            have HAP : Hid _ := own_app Tryz.underlying22 parts_int rfl (by decide) hst hrow rfl (fun u hu => by simp at hu; subst hu; rfl) (by omega) (by omega) (by rw [size_alloc]; omega)
            have HB2 : Hid (Below q1 w1 (Y.alloc (.cells #[.int .i64 t] 3))) := hby.alloc hqy _
            have HST : Hid _ := hst
            clear HYq hst hrow hoy hby
            go_wp2_with (at_builtin; go_loud (refine wpList_app _ rfl (.tmp 28) (.tmp 30) 22 22 rfl _ _ rfl rfl HAP.out ?_; rintro v' w' ⟨h1, h2, h3⟩; have H7 : Hid (w'.ownsRow q1 3 1 v' (m + 1) ((T ++ tokW x k).map (Value.int .i64) ++ [.int .i64 t])) := h1; have H8 : Hid (Below q1 w1 w') := grown_below HB2.out HST.out (Nat.le_refl _) (by rw [size_alloc]; omega) h2; clear h1 h2 h3))
            refine ⟨⟨k + 1, h7, ?_, ?_, H8.out⟩, ?_⟩
            · have := HT'.out; exact congrArg (Value.int .i64) (by omega)
            · rw [HU.out, ← List.append_assoc]
              simp only [List.length_append (bs := [t]), List.length_singleton, HM.out, List.map_append (l₂ := [t]), List.map_cons, List.map_nil]
              exact H7.out
            · show 8 - (t + 1).toNat < 8 - t.toNat; omega
          · rw [decide_eq_false hwx] at hse
            rw [if_neg hwx] at HU
            clear hwx
            refine Go.Pin.wp_region_cls (fun Y => Below wr.heap.size wr Y) (by kernel_rfl) (by kernel_rfl) ((Below.refl _ _).drew) ?_
            intro Sq fq hNq hRq hSq
            have k0 := fun x => HC.out _ (HBY.out.trans ((hRq x).mono (by have := HBY.out.size; omega)))
            have CF := fun x => HWD.out (fq x)
            repeat (go_big_quiet_step (exact (CF _).mono (fun e w' h => ⟨h.1, hSq _ (by rw [h.2]; exact hRq _)⟩)))
            refine wpQuiet_nil ?_
            intro _ hw'
            obtain ⟨xq, hw''⟩ := hw'
            subst hw''
            have HYq := hRq xq
            generalize fq xq = Y at HYq ⊢
            clear hRq hSq hNq xq fq Sq k0 CF
            have HY : Hid (Below wr.heap.size wr Y) := HYq
            clear HYq
            go_wp2
            refine ⟨⟨k + 1, h7, ?_, ?_, HBY.out.trans (HY.out.mono (by have := HBY.out.size; omega))⟩, ?_⟩
            · have := HT'.out; exact congrArg (Value.int .i64) (by omega)
            · rw [HU.out, HM.out]; exact owns_below HY.out HOY.out
            · show 8 - (t + 1).toNat < 8 - t.toNat; omega
        · have b7 : ¬ ((k + 1 : Nat) : Int) ≤ 7 := by omega
          obtain rfl : k = 7 := by omega
          go_wp2
          refine ⟨⟨i + 1, hlt, congrArg (Value.int .i64) (Int.natCast_succ i).symm, ?_, HBY.out⟩, by show n - ((i : Int) + 1).toNat < n - ((i : Int)).toNat; omega⟩
          rw [HSN.out, HM.out]
          exact HOY.out
    · have b1 : ¬ (i : Int) < (n : Int) := by omega
      obtain rfl : i = n := by omega
      clear ho hb
      go_wp2
      go_ret
      refine ⟨_, rfl, ?_, HB.out.trans (HB1.out.mono hq1)⟩
      rw [HT.out]
      exact own_mono HO.out hq1
end Go.Proofs.YtmlcgcmoioekpaaGreatDoor
/- a pattern whose lists are one's own, in a box, while words turn it -/
namespace Go.Proofs.YtmlcgcmoioekpaaGreatDoor
set_option linter.unusedSimpArgs false
set_option linter.unusedVariables false
set_option maxRecDepth 100000
open Go.ChangeShapes Go.WideShapes Go.ChangeAt Go.RowKit Go.Pin Go.Pat
theorem nodup_del {P A B C : List Nat} (h : (P ++ (A ++ (B ++ C))).Nodup) : (P ++ (A ++ C)).Nodup := by
  refine List.Nodup.sublist ?_ h
  exact (List.Sublist.refl P).append ((List.Sublist.refl A).append (List.sublist_append_right B C))
theorem OS.swap {base : Nat} {pre : List Nat} {A B : List Lv} {x y : Lv} {w w' : World} (h : OS base pre (A ++ y :: B) w) (hk : ∀ k ∈ obs A ++ obs B, w'.heap[k]? = w.heap[k]?) (hx : w'.ownsRow base 3 1 x.2.1 x.2.2.length (x.2.2.map (Value.int .i64))) (hn : ∀ k, x.2.1.ownBlock = some k → k ∉ pre ∧ k ∉ obs A ∧ k ∉ obs B) : OS base pre (A ++ x :: B) w' := by
  have hnd := h.nd
  rw [show A ++ y :: B = A ++ ([y] ++ B) from rfl, obs_app, obs_app, obs_one] at hnd
  refine ⟨fun f hf => ?_, ?_⟩
  · rcases List.mem_append.1 hf with hf | hf
    · refine own_keep (h.own f (List.mem_append_left _ hf)) (fun g hg => hk g (List.mem_append_left _ (obs_mem hf hg)))
    · rcases List.mem_cons.1 hf with rfl | hf
      · exact hx
      · refine own_keep (h.own f (List.mem_append_right _ (List.mem_cons_of_mem _ hf))) (fun g hg => hk g (List.mem_append_right _ (obs_mem hf hg)))
  · rw [show A ++ x :: B = A ++ ([x] ++ B) from rfl, obs_app, obs_app, obs_one]
    exact nodup_ins (nodup_del hnd) hn
/-- the list of lines: where it lies, what its cells are -/
def LnX (base : Nat) (pre : List Nat) (vl : Value) (fs : List Lv) (w : World) : Prop :=
  ∃ a cap, vl = .slice a fs.length cap ∧ fs.length ≤ cap ∧ (fs = [] ∨ ∃ g o cur, pre = [g] ∧ a = some ⟨g, o, none⟩ ∧ base ≤ g ∧ w.heap[g]? = some (.cells cur 58 (0, 0)) ∧ ∀ j, j < fs.length → cur[o + j * 2]? = some (.int .i64 (fs.getD j (0, undef, [])).1) ∧ cur[o + j * 2 + 1]? = some (fs.getD j (0, undef, [])).2.1)
structure MS (q : Nat) (W : World) (nm : ByteArray) (v0 v1 vl : Value) (b0 b1 : List Int) (fs : List Lv) (wr : World) : Prop where
  p2 : P2 q W nm v0 v1 vl wr
  ex : ∃ pre, OS (q + 2) pre ((0, v0, b0) :: (1, v1, b1) :: fs) wr ∧ LnX (q + 2) pre vl fs wr
section
variable {q : Nat} {W wr w' : World} {nm : ByteArray} {v0 v1 vl : Value} {b0 b1 : List Int} {fs : List Lv}
/-- what lies in blocks of the list and its lists stays -/
theorem MS.keep (h : MS q W nm v0 v1 vl b0 b1 fs wr) {nm' : ByteArray} (hp : P2 q W nm' v0 v1 vl w') (hb : ∀ b, q + 2 ≤ b → b < wr.heap.size → w'.heap[b]? = wr.heap[b]?) : MS q W nm' v0 v1 vl b0 b1 fs w' := by
  obtain ⟨pre, hos, a, cap, e, hc, hl⟩ := h.ex
  refine ⟨hp, pre, hos.keep (fun k hk => hb k (hos.lt k hk).1 (hos.lt k hk).2), a, cap, e, hc, ?_⟩
  rcases hl with hl | ⟨g, o, cur, h1, h2, h3, h4, h5⟩
  · exact .inl hl
  · exact .inr ⟨g, o, cur, h1, h2, h3, (hb g h3 (Array.getElem?_eq_some_iff.1 h4).1).trans h4, h5⟩
theorem MS.below (h : MS q W nm v0 v1 vl b0 b1 fs wr) (hb : Below wr.heap.size wr w') : MS q W nm v0 v1 vl b0 b1 fs w' := h.keep (h.p2.below hb) (fun b _ hl => hb.block b hl)
theorem MS.o0 (h : MS q W nm v0 v1 vl b0 b1 fs wr) : wr.ownsRow (q + 2) 3 1 v0 b0.length (b0.map (Value.int .i64)) := by
  obtain ⟨pre, hos, _⟩ := h.ex
  exact hos.own (0, v0, b0) (by simp)
theorem MS.o1 (h : MS q W nm v0 v1 vl b0 b1 fs wr) : wr.ownsRow (q + 2) 3 1 v1 b1.length (b1.map (Value.int .i64)) := by
  obtain ⟨pre, hos, _⟩ := h.ex
  exact hos.own (1, v1, b1) (by simp)
theorem MS.rl (h : MS q W nm v0 v1 vl b0 b1 fs wr) (hn : fs.length ≤ 1000) (hf : ∀ f ∈ fs, f.2.2.length ≤ 1000) : RdL wr vl (lvl fs) := by
  obtain ⟨pre, hos, a, cap, rfl, hc, hl⟩ := h.ex
  have hlen : (lvl fs).length = fs.length := by simp [lvl]
  refine ⟨a, cap, by rw [hlen], by rw [hlen]; exact hc, by rw [hlen]; omega, fun j hj => ?_⟩
  rw [hlen] at hj
  rcases hl with hl | ⟨g, o, cur, h1, h2, h3, h4, h5⟩
  · subst hl; simp at hj
  · have hgd : (lvl fs).getD j (0, []) = ((fs.getD j (0, undef, [])).1, (fs.getD j (0, undef, [])).2.2) := by simp [lvl, List.getD, hj]
    have hm : fs.getD j (0, undef, []) ∈ fs := by simp [List.getD, hj]
    rw [hgd]
    exact ⟨g, o, _, h2, by rw [cell_of_row _ _ _ _ _ _ h4]; exact (h5 j hj).1, by rw [cell_of_row _ _ _ _ _ _ h4]; exact (h5 j hj).2, own_ints (hos.own _ (List.mem_cons_of_mem _ (List.mem_cons_of_mem _ hm))) (by have := hf _ hm; simp only; omega)⟩
theorem MS.rd (h : MS q W nm v0 v1 vl b0 b1 fs wr) (hb0 : b0.length ≤ 1000) (hb1 : b1.length ≤ 1000) (hn : fs.length ≤ 1000) (hf : ∀ f ∈ fs, f.2.2.length ≤ 1000) : RdP wr (.agg #[.string nm, v0, v1, vl]) ⟨nm, b0, b1, lvl fs⟩ :=
  ⟨v0, v1, vl, rfl, own_ints h.o0 (by simp only; omega), own_ints h.o1 (by simp only; omega), h.rl hn hf⟩
/-- where a line's cells lie -/
theorem MS.at (h : MS q W nm v0 v1 vl b0 b1 fs wr) {j : Nat} (hj : j < fs.length) : ∃ g o cap, vl = .slice (some ⟨g, o, none⟩) fs.length cap ∧ fs.length ≤ cap ∧ q + 2 ≤ g ∧ g < wr.heap.size ∧ wr.cell? ⟨g, o + j * 2, none⟩ = some (.int .i64 (fs.getD j (0, undef, [])).1) ∧ wr.cell? ⟨g, o + j * 2 + 1, none⟩ = some (fs.getD j (0, undef, [])).2.1 ∧ wr.frozen? ⟨g, o + j * 2 + 1, none⟩ = false ∧ wr.ownsRow (q + 2) 3 1 (fs.getD j (0, undef, [])).2.1 (fs.getD j (0, undef, [])).2.2.length ((fs.getD j (0, undef, [])).2.2.map (Value.int .i64)) := by
  obtain ⟨pre, hos, a, cap, rfl, hc, hl⟩ := h.ex
  rcases hl with hl | ⟨g, o, cur, h1, rfl, h3, h4, h5⟩
  · subst hl; simp at hj
  · have hm : fs.getD j (0, undef, []) ∈ fs := by simp [List.getD, hj]
    exact ⟨g, o, cap, rfl, hc, h3, (Array.getElem?_eq_some_iff.1 h4).1, by rw [cell_of_row _ _ _ _ _ _ h4]; exact (h5 j hj).1, by rw [cell_of_row _ _ _ _ _ _ h4]; exact (h5 j hj).2, frozen_of_row _ _ _ _ _ h4, hos.own _ (List.mem_cons_of_mem _ (List.mem_cons_of_mem _ hm))⟩
/-- a line gets another list of tokens: w' is the world behind the list's making, then the line's cell is set -/
theorem MS.put (h : MS q W nm v0 v1 vl b0 b1 fs wr) {g o cap j : Nat} (hv : vl = .slice (some ⟨g, o, none⟩) fs.length cap) (hj : j < fs.length) {row : Option Nat} (hg : wr.grownBy w' row) (hr : ∀ k, row = some k → q + 2 ≤ k ∧ (k = wr.heap.size ∨ wr.heap.size < k ∨ (fs.getD j (0, undef, [])).2.1.ownBlock = some k)) {x : Value} {C : List Int} (hx : w'.ownsRow (q + 2) 3 1 x C.length (C.map (Value.int .i64))) (hxb : x.ownBlock = (fs.getD j (0, undef, [])).2.1.ownBlock ∨ ∀ k, x.ownBlock = some k → wr.heap.size ≤ k) :
    MS q W nm v0 v1 vl b0 b1 (fs.set j ((fs.getD j (0, undef, [])).1, x, C)) (w'.setCell ⟨g, o + j * 2 + 1, none⟩ x) ∧ w'.cell? ⟨g, o + j * 2 + 1, none⟩ = some (fs.getD j (0, undef, [])).2.1 ∧ w'.frozen? ⟨g, o + j * 2 + 1, none⟩ = false := by
  obtain ⟨pre, hos, a, cap', e, hc, hl⟩ := h.ex
  rw [hv] at e
  injection e with e1 e2 e3
  subst e1 e3
  rcases hl with hl | ⟨g', o', cur, h1, h2, h3, h4, h5⟩
  · subst hl; simp at hj
  injection h2 with h2
  injection h2 with h2 h2'
  subst h2 h2'
  obtain ⟨y, hy⟩ : ∃ y, fs.getD j (0, undef, []) = y := ⟨_, rfl⟩
  rw [hy] at hr hxb ⊢
  have hfs : fs = fs.take j ++ y :: fs.drop (j + 1) := by
    rw [← hy]
    have : fs.getD j (0, undef, []) = fs[j] := by simp [List.getD, hj]
    rw [this, List.getElem_cons_drop, List.take_append_drop]
  have hset : ∀ z, fs.set j z = fs.take j ++ z :: fs.drop (j + 1) := fun z => by rw [List.set_eq_take_append_cons_drop, if_pos hj]
  have hgs := (Array.getElem?_eq_some_iff.1 h4).1
  have hos' : OS (q + 2) pre (((0, v0, b0) :: (1, v1, b1) :: fs.take j) ++ y :: fs.drop (j + 1)) wr := by
    have e : ((0, v0, b0) :: (1, v1, b1) :: fs.take j) ++ y :: fs.drop (j + 1) = (0, v0, b0) :: (1, v1, b1) :: fs := by rw [List.cons_append, List.cons_append, ← hfs]
    rw [e]; exact hos
  have hnd := hos'.nd
  rw [show ∀ A B : List Lv, A ++ y :: B = A ++ ([y] ++ B) from fun _ _ => rfl, obs_app, obs_app, obs_one] at hnd
  -- the old list's block is not among the others
  have hyn : ∀ k, y.2.1.ownBlock = some k → k ∉ pre ∧ k ∉ obs ((0, v0, b0) :: (1, v1, b1) :: fs.take j) ∧ k ∉ obs (fs.drop (j + 1)) := fun k hk => by
    rw [hk] at hnd
    simp only [Option.toList] at hnd
    have hp := (List.nodup_append.1 hnd)
    have hq := (List.nodup_append.1 hp.2.1)
    have hz := (List.nodup_append.1 hq.2.1)
    refine ⟨fun hm => hp.2.2 k hm k (by simp) rfl, fun hm => hq.2.2 k hm k (by simp) rfl, fun hm => hz.2.2 k (by simp) k hm rfl⟩
  have hlt : ∀ k, k ∈ obs ((0, v0, b0) :: (1, v1, b1) :: fs.take j) ++ obs (fs.drop (j + 1)) → q + 2 ≤ k ∧ k < wr.heap.size := fun k hk => by
    refine hos'.lt k ?_
    rw [show ∀ A B : List Lv, A ++ y :: B = A ++ ([y] ++ B) from fun _ _ => rfl, obs_app, obs_app]
    rcases List.mem_append.1 hk with hk | hk
    · exact List.mem_append_left _ hk
    · exact List.mem_append_right _ (List.mem_append_right _ hk)
  have hgn : g ∉ obs ((0, v0, b0) :: (1, v1, b1) :: fs.take j) ++ obs (fs.drop (j + 1)) ∧ y.2.1.ownBlock ≠ some g := by
    subst h1
    have hp := List.nodup_append.1 hnd
    refine ⟨fun hm => ?_, fun e => (hyn g e).1 (by simp)⟩
    refine hp.2.2 g (by simp) g ?_ rfl
    rcases List.mem_append.1 hm with hm | hm
    · exact List.mem_append_left _ hm
    · exact List.mem_append_right _ (List.mem_append_right _ hm)
  have hw'g : w'.heap[g]? = some (.cells cur 58 (0, 0)) := (hg.block g hgs (fun e => by
    rcases (hr g e.symm).2 with h | h | h
    · omega
    · omega
    · exact hgn.2 h)).trans h4
  have hkeep : ∀ k ∈ obs ((0, v0, b0) :: (1, v1, b1) :: fs.take j) ++ obs (fs.drop (j + 1)), w'.heap[k]? = wr.heap[k]? := fun k hk => hg.block k (hlt k hk).2 (fun e => by
    rcases (hr k e.symm).2 with h | h | h
    · have := (hlt k hk).2; omega
    · have := (hlt k hk).2; omega
    · rcases List.mem_append.1 hk with hk | hk
      · exact (hyn k h).2.1 hk
      · exact (hyn k h).2.2 hk)
  have hxn : ∀ k, x.ownBlock = some k → k ∉ pre ∧ k ∉ obs ((0, v0, b0) :: (1, v1, b1) :: fs.take j) ∧ k ∉ obs (fs.drop (j + 1)) := fun k hk => by
    rcases hxb with hxb | hxb
    · exact hyn k (by rw [← hxb]; exact hk)
    · have hk' := hxb k hk
      refine ⟨fun hm => ?_, fun hm => by have := (hlt k (List.mem_append_left _ hm)).2; omega, fun hm => by have := (hlt k (List.mem_append_right _ hm)).2; omega⟩
      subst h1
      simp at hm
      omega
  have hxg : x.ownBlock ≠ some g := fun e => (hxn g e).1 (by rw [h1]; simp)
  have hos2 : OS (q + 2) pre (((0, v0, b0) :: (1, v1, b1) :: fs.take j) ++ ((y.1, x, C) : Lv) :: fs.drop (j + 1)) w' := hos'.swap hkeep hx hxn
  have ho : ∀ b, b ≠ g → (w'.setCell ⟨g, o + j * 2 + 1, none⟩ x).heap[b]? = w'.heap[b]? := fun b hne => heap_setCell_other _ _ _ _ hne
  have hob : ∀ k ∈ obs (((0, v0, b0) :: (1, v1, b1) :: fs.take j) ++ ((y.1, x, C) : Lv) :: fs.drop (j + 1)), k ≠ g := fun k hk e => by
    subst e
    rw [show ∀ (A B : List Lv) (z : Lv), A ++ z :: B = A ++ ([z] ++ B) from fun _ _ _ => rfl, obs_app, obs_app, obs_one] at hk
    rcases List.mem_append.1 hk with hk | hk
    · exact hgn.1 (List.mem_append_left _ hk)
    · rcases List.mem_append.1 hk with hk | hk
      · cases ex : x.ownBlock with
        | none => simp only [ex, Option.toList] at hk; simp at hk
        | some z => simp only [ex, Option.toList] at hk; simp at hk; exact hxg (by rw [ex, hk])
      · exact hgn.1 (List.mem_append_right _ hk)
  have hbut := (But.refl (fun k => k = g) w').setCell (p := ⟨g, o + j * 2 + 1, none⟩) rfl x
  have hp2' : P2 q W nm v0 v1 (.slice (some ⟨g, o, none⟩) fs.length cap) w' := by
    have hp := h.p2
    rw [hv] at hp
    exact hp.grownO hg (fun k hk => (hr k hk).1)
  refine ⟨⟨⟨⟨hbut.os.trans hp2'.old.os, hbut.tape.trans hp2'.old.tape, hbut.output.trans hp2'.old.output, Nat.le_trans hp2'.old.size (Nat.le_of_eq hbut.size.symm), fun k hk => ?_⟩, ?_, ?_, ?_⟩, pre, ?_, some ⟨g, o, none⟩, cap, ?_, ?_, .inr ⟨g, o, cur.setIfInBounds (o + j * 2 + 1) x, h1, rfl, h3, ?_, fun i hi => ?_⟩⟩, ?_, ?_⟩
  · rw [ho k (by omega)]; exact hp2'.old.block k hk
  · rw [hbut.size]; exact hp2'.lt
  · rw [ho q (by omega), hv]; exact hp2'.row
  · rw [ho (q + 1) (by omega)]; exact hp2'.row2
  · rw [hset]
    exact hos2.keep (fun k hk => ho k (hob k hk))
  · rw [hv, List.length_set]
  · rw [List.length_set]; exact hc
  · rw [heap_setCell_same _ _ _ _ _ _ hw'g]
  · rw [List.length_set] at hi
    have hne0 : o + j * 2 + 1 ≠ o + i * 2 := by omega
    rw [Array.getElem?_setIfInBounds, if_neg hne0, Array.getElem?_setIfInBounds]
    have h5i := h5 i hi
    by_cases hij : i = j
    · subst hij
      have hsz : o + i * 2 + 1 < cur.size := (Array.getElem?_eq_some_iff.1 h5i.2).1
      rw [if_pos rfl, if_pos hsz]
      have : (fs.set i (y.1, x, C)).getD i (0, undef, []) = (y.1, x, C) := by simp [List.getD, hi]
      rw [this]
      exact ⟨by rw [h5i.1, hy], rfl⟩
    · have hne1 : o + j * 2 + 1 ≠ o + i * 2 + 1 := by omega
      rw [if_neg hne1]
      have : (fs.set j (y.1, x, C)).getD i (0, undef, []) = fs.getD i (0, undef, []) := by
        simp only [List.getD, List.getElem?_set]
        rw [if_neg (fun e => hij e.symm)]
      rw [this]
      exact h5i
  · rw [cell_of_row _ _ _ _ _ _ hw'g]
    rw [(h5 j hj).2, hy]
  · exact frozen_of_row _ _ _ _ _ hw'g
theorem OS.sub {base : Nat} {pre : List Nat} {fs gs : List Lv} {w : World} (h : OS base pre fs w) (hs : gs.Sublist fs) : OS base pre gs w :=
  ⟨fun f hf => h.own f (hs.subset hf), h.nd.sublist ((List.Sublist.refl pre).append (hs.filterMap _))⟩
theorem OS.base {base b2 : Nat} {pre : List Nat} {fs : List Lv} {w : World} (h : OS base pre fs w) (hb : b2 ≤ base) : OS b2 pre fs w := ⟨fun f hf => own_mono (h.own f hf) hb, h.nd⟩
theorem P2.setRow (h : P2 q W nm v0 v1 vl wr) (nm' : ByteArray) (u0 u1 ul : Value) : P2 q W nm' u0 u1 ul (wr.setRow q #[.string nm', u0, u1, ul]) := by
  refine ⟨below_setRow h.old _ (Nat.le_refl _) _, ?_, setRow_heap _ _ _ _ 26 _ h.row, ?_⟩
  · have h2 : (wr.setRow q #[.string nm', u0, u1, ul]).heap[q + 1]? = some (.cells zPat 26) := by rw [setRow_other _ _ _ _ (by omega)]; exact h.row2
    exact (Array.getElem?_eq_some_iff.1 h2).1
  · rw [setRow_other _ _ _ _ (by omega)]; exact h.row2
/-- what Copy answered is laid into the box -/
theorem ms_copy {p : Pt} {q1 : Nat} {w1 w2 : World} (h : P2 q W nm v0 v1 vl w2) {u0 u1 l : Value} (hq : q + 2 ≤ q1) (hl : lvl fs = p.ln) (ho : w2.ownsRow (q1 + 2) 58 2 l fs.length (lvc fs)) (hos : OS (q1 + 2) l.ownBlock.toList ((0, u0, p.b0) :: (1, u1, p.b1) :: fs) w2) :
    MS q W p.nm u0 u1 l p.b0 p.b1 fs (w2.setRow q #[.string p.nm, u0, u1, l]) := by
  have hot : ∀ b, q + 2 ≤ b → (w2.setRow q #[.string p.nm, u0, u1, l]).heap[b]? = w2.heap[b]? := fun b hb => setRow_other _ _ _ _ (by omega)
  refine ⟨h.setRow _ _ _ _, l.ownBlock.toList, (hos.base (by omega)).keep (fun k hk => hot k (by have := (hos.lt k hk).1; omega)), ?_⟩
  rcases ho.2 with ⟨rfl, e2⟩ | ⟨g, cap, cur, rfl, hb, hg, h1, h2, h3, h4⟩
  · exact ⟨none, 0, by rw [e2], by rw [e2]; exact Nat.le_refl _, .inl (List.length_eq_zero_iff.1 e2)⟩
  · refine ⟨some ⟨g, 0, none⟩, cap, rfl, h1, .inr ⟨g, 0, cur, rfl, rfl, by omega, (hot g (by omega)).trans hg, fun j hj => ?_⟩⟩
    obtain ⟨a1, a2⟩ := lvc_at fs j hj
    have hh : ∀ i u, (lvc fs)[i]? = some u → cur[i]? = some u := fun i u hu => by
      have hi := (List.getElem?_eq_some_iff.1 hu).1
      rw [ho.1] at hi
      rw [← h4, List.getElem?_take_of_lt hi] at hu
      simpa using hu
    rw [Nat.zero_add]
    exact ⟨hh _ _ a1, hh _ _ a2⟩
/-- the first line is taken out, one of the lists known ahead is another -/
theorem MS.fb (h : MS q W nm v0 v1 vl b0 b1 fs wr) (hb : Below wr.heap.size wr w') {x : Value} {C : List Int} (hx : w'.ownsRow (wr.heap.size + 3) 3 1 x C.length (C.map (Value.int .i64))) {a : Option Addr} {n cap g o : Nat} (hv : vl = .slice (some ⟨g, o, none⟩) (n + 1) (cap + 1)) (hf : fs.length = n + 1) (ha : n = 0 ∨ a = some ⟨g, o + 2, none⟩) :
    (∃ pre, OS (q + 2) pre ((0, x, C) :: (1, v1, b1) :: fs.tail) w' ∧ LnX (q + 2) pre (.slice a n cap) fs.tail w') ∧ (∃ pre, OS (q + 2) pre ((0, v0, b0) :: (1, x, C) :: fs.tail) w' ∧ LnX (q + 2) pre (.slice a n cap) fs.tail w') := by
  have hm := h.below hb
  obtain ⟨pre, hos, a', cap', e, hc, hl⟩ := hm.ex
  obtain ⟨pre0, hos0, _⟩ := h.ex
  rw [hv] at e
  injection e with e1 e2 e3
  subst e1
  have hq := h.p2.lt
  have hx2 : w'.ownsRow (q + 2) 3 1 x C.length (C.map (Value.int .i64)) := own_mono hx (by omega)
  have hxk : ∀ k, x.ownBlock = some k → wr.heap.size < k := fun k hk => by have := (hx.lt k hk).1; omega
  have hobs : ∀ k ∈ obs ((0, v0, b0) :: (1, v1, b1) :: fs), k < wr.heap.size := fun k hk => (hos0.lt k hk).2
  obtain ⟨y, hy⟩ : ∃ y, fs = y :: fs.tail := by
    cases hfs : fs with
    | nil => rw [hfs] at hf; simp at hf
    | cons y r => exact ⟨y, rfl⟩
  have hln : LnX (q + 2) pre (.slice a n cap) fs.tail w' ∧ ∀ k ∈ pre, fs ≠ [] → k < wr.heap.size := by
    rcases hl with hl | ⟨g', o', cur, h1, h2, h3, h4, h5⟩
    · rw [hl] at hf; simp at hf
    injection h2 with h2
    injection h2 with h2 h2'
    subst h2 h2'
    have hg0 : g < wr.heap.size := by
      obtain ⟨g2, o2, c2, e2', _, _, hlt, _⟩ := h.at (j := 0) (by omega)
      rw [hv] at e2'
      injection e2' with e2'
      injection e2' with e2'
      injection e2' with e2'
      subst e2'
      exact hlt
    refine ⟨⟨a, cap, by rw [List.length_tail, hf]; rfl, by rw [List.length_tail]; omega, ?_⟩, fun k hk _ => by rw [h1] at hk; simp at hk; omega⟩
    by_cases hn0 : n = 0
    · left
      exact List.length_eq_zero_iff.1 (by rw [List.length_tail, hf, hn0])
    · right
      refine ⟨g, o + 2, cur, h1, ha.resolve_left hn0, h3, h4, fun j hj => ?_⟩
      rw [List.length_tail] at hj
      have := h5 (j + 1) (by omega)
      have hgd : fs.tail.getD j (0, undef, []) = fs.getD (j + 1) (0, undef, []) := by rw [hy]; simp [List.getD]
      rw [hgd, show o + 2 + j * 2 = o + (j + 1) * 2 by omega]
      exact this
  have hfs0 : fs ≠ [] := fun e => by rw [e] at hf; simp at hf
  have hpre : ∀ k, x.ownBlock = some k → k ∉ pre := fun k hk hm' => by have := hln.2 k hm' hfs0; have := hxk k hk; omega
  refine ⟨⟨pre, ?_, hln.1⟩, ⟨pre, ?_, hln.1⟩⟩
  · have h1 : OS (q + 2) pre ([] ++ ((0, x, C) : Lv) :: (1, v1, b1) :: fs) w' := OS.swap (y := (0, v0, b0)) hos (fun k _ => rfl) hx2 (fun k hk => ⟨hpre k hk, by simp [obs], fun hm' => by
      have := hobs k (by rw [show ((0, v0, b0) :: (1, v1, b1) :: fs : List Lv) = [(0, v0, b0)] ++ ((1, v1, b1) :: fs) from rfl, obs_app]; exact List.mem_append_right _ hm')
      have := hxk k hk
      omega⟩)
    exact h1.sub (((List.tail_sublist fs).cons_cons _).cons_cons _)
  · have h1 : OS (q + 2) pre ([(0, v0, b0)] ++ ((1, x, C) : Lv) :: fs) w' := OS.swap (y := (1, v1, b1)) hos (fun k _ => rfl) hx2 (fun k hk => ⟨hpre k hk, fun hm' => by
      have := hobs k (by rw [show ((0, v0, b0) :: (1, v1, b1) :: fs : List Lv) = [(0, v0, b0)] ++ ((1, v1, b1) :: fs) from rfl, obs_app]; exact List.mem_append_left _ hm')
      have := hxk k hk
      omega, fun hm' => by
      have := hobs k (by rw [show ((0, v0, b0) :: (1, v1, b1) :: fs : List Lv) = [(0, v0, b0), (1, v1, b1)] ++ fs from rfl, obs_app]; exact List.mem_append_right _ hm')
      have := hxk k hk
      omega⟩)
    exact h1.sub (((List.tail_sublist fs).cons_cons _).cons_cons _)
end
end Go.Proofs.YtmlcgcmoioekpaaGreatDoor
namespace Go.Proofs.YtmlcgcmoioekpaaGreatDoor
set_option linter.unusedSimpArgs false
set_option linter.unusedVariables false
open Go.ChangeShapes Go.WideShapes Go.ChangeAt Go.RowKit Go.Pin Go.Pat
set_option maxRecDepth 100000 in
set_option maxHeartbeats 4000000 in
theorem rows_any (s : ByteArray) (W : World) (hs : s.size ≤ 100000) :
    Calls Tryz.prog 48 #[.string s] W fun e w' => ∃ v, e = .returned (.tuple #[v, .bool (decide ((rws s).2 = s.size))]) ∧ w'.ownsRow W.heap.size 9 1 v (rws s).1.length ((rws s).1.map Value.string) ∧ Below W.heap.size W w' := by
  obtain ⟨q, hq⟩ : ∃ q, W.heap.size = q := ⟨_, rfl⟩
  obtain ⟨n, hn⟩ : ∃ n, s.size = n := ⟨_, rfl⟩
  rw [hn] at hs
  rw [hq]
  go_enter Tryz.func48, Tryz.ntmps48
  go_wp2
  go_loopw [4, 5, 6] (fun v4 v5 v6 wr => ∃ i : Nat, i ≤ n ∧ v6 = .int .i64 i ∧ v5 = .int .i64 ((rwsN s i).2 : Nat) ∧ wr.ownsRow q 9 1 v4 (rwsN s i).1.length ((rwsN s i).1.map Value.string) ∧ Below q W wr) (fun _ _ v _ => n - (intOf v).toNat)
  case atStart => exact ⟨0, Nat.zero_le _, rfl, rfl, own_nil0 _ _ _ _, Below.refl _ _⟩
  case round =>
    obtain ⟨i, hi, rfl, rfl, ho, hb⟩ := hrel
    have hle := rwsN_le s i
    have hu : rwsN s (i + 1) = if byt s i = 10 then ((rwsN s i).1 ++ [s.extract (rwsN s i).2 i], i + 1) else rwsN s i := rfl
    obtain ⟨r, hr⟩ : ∃ r, rwsN s i = r := ⟨_, rfl⟩
    rw [hr] at ho hle hu ⊢
    obtain ⟨L, at_⟩ := r
    have HR0 : Hid (rwsN s i = (L, at_)) := hr
    simp only at ho hle hu ⊢
    obtain ⟨m, hm⟩ : ∃ m, L.length = m := ⟨_, rfl⟩
    rw [hm] at ho hle
    have HO : Hid (wr.ownsRow q 9 1 u4 m (L.map Value.string)) := ho
    have HB : Hid (Below q W wr) := hb
    have HM : Hid (L.length = m) := hm
    have hqs : q ≤ wr.heap.size := by have := hb.size; omega
    clear ho hb hr hm
    by_cases hlt : i < n
    · have b1 : (i : Int) < (n : Int) := by omega
      have hil : i < s.size := by omega
      by_cases hcut : byt s i = 10
      · rw [if_pos hcut] at hu
        have hst := HO.out.alloc (.cells #[.string (s.extract at_ i)] 9)
        have hrow : (wr.alloc (.cells #[.string (s.extract at_ i)] 9)).heap[wr.heap.size]? = some (.cells [Value.string (s.extract at_ i)].toArray 9 (0, 0)) := heap_alloc_new _ _
        have HAP : Hid _ := own_app Tryz.underlying53 parts_str rfl (by decide) hst hrow rfl (fun u hu => by simp at hu; subst hu; rfl) (by omega) (by omega) (by rw [size_alloc]; omega)
        have HB2 : Hid (Below q W (wr.alloc (.cells #[.string (s.extract at_ i)] 9))) := HB.out.alloc hqs _
        have HST : Hid _ := hst
        have HU : Hid _ := hu
        have a1 : (at_ : Int) ≤ (i : Int) := by omega
        have e2 : ((s[i].toNat : Int) == 10) = true := by rw [byt_get s i hil] at hcut; simp; omega
        clear hu hst hrow hcut
        go_wp2_with (at_builtin; go_loud (refine wpList_app _ rfl (.tmp 17) (.tmp 22) 53 53 rfl _ _ rfl rfl HAP.out ?_; rintro v' w' ⟨h1, h2, h3⟩; have H7 : Hid (w'.ownsRow q 9 1 v' (m + 1) (L.map Value.string ++ [.string (s.extract at_ i)])) := h1; have H8 : Hid (Below q W w') := grown_below HB2.out HST.out (Nat.le_refl _) (by rw [size_alloc]; omega) h2; clear h1 h2 h3))
        refine ⟨⟨i + 1, hlt, congrArg (Value.int .i64) (Int.natCast_succ i).symm, ?_, ?_, H8.out⟩, by show n - ((i : Int) + 1).toNat < n - ((i : Int)).toNat; omega⟩
        · rw [HU.out]; exact congrArg (Value.int .i64) (Int.natCast_succ i).symm
        · rw [HU.out]; simp only [List.length_append, List.length_singleton, HM.out, List.map_append, List.map_cons, List.map_nil]; exact H7.out
      · rw [if_neg hcut] at hu
        have HU : Hid _ := hu
        have e2 : ((s[i].toNat : Int) == 10) = false := by rw [byt_get s i hil] at hcut; simp; omega
        clear hu hcut
        go_wp2
        refine ⟨⟨i + 1, hlt, congrArg (Value.int .i64) (Int.natCast_succ i).symm, ?_, ?_, HB.out⟩, by show n - ((i : Int) + 1).toNat < n - ((i : Int)).toNat; omega⟩
        · rw [HU.out]
        · rw [HU.out]; simp only [HM.out]; exact HO.out
    · have b1 : ¬ (i : Int) < (n : Int) := by omega
      have HI : Hid (rws s = (L, at_)) := by
        show rws s = (L, at_)
        unfold rws
        rw [← HR0.out, hn, show n = i by omega]
      have he : ((at_ : Int) == (n : Int)) = decide (at_ = n) := by
        by_cases h : at_ = n
        · simp [h]
        · rw [decide_eq_false h]; simp; omega
      have HE : Hid _ := he
      clear hu he
      go_wp2
      go_ret2
      refine ⟨u4, ?_, ?_, HB.out⟩
      · rw [HI.out]; simp only [← HE.out]; rfl
      · rw [HI.out]
        simp only [HM.out]
        exact HO.out
end Go.Proofs.YtmlcgcmoioekpaaGreatDoor
