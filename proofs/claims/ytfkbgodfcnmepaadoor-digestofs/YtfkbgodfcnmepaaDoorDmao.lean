import Derived.Test.YtfkbgodfcnmepaaDoorDman
import Derived.Test.YtfkbgodfcnmepaaDoorDmal
import Derived.Test.YtfkbgodfcnmepaaDoorDmag
namespace Go.Proofs.YtfkbgodfcnmepaaDoor
set_option linter.unusedSimpArgs false
set_option linter.unusedVariables false
open Go.ChangeShapes Go.WideShapes Go.ChangeAt Go.RowKit Go.Pin Go.Str Go.Dig
/-- a list of bytes of one's own, nothing beside it -/
def LS (q : Nat) (W : World) (A : List Int) (v : Value) (w' : World) : Prop := LE 5 1 v A.length (A.map (Value.int .u8)) q W (.pointer none) [] [] w'
section
variable {q : Nat} {W : World} {A D : List Int} {v : Value} {w' w2 : World}
theorem LS.slice (h : LS q W A v w') {n : Nat} (hn : A.length = n) : ∃ a c, v = .slice a n c := by rw [← hn]; exact LE.slice h
theorem LS.append (h : LS q W A v w') {u : Value} (hS : Src q W [] u D) (hn : A.length + D.length ≤ 1000000) (ty : TypeId) : ∃ v' w2, (Builtin.append_ #[22, 22] ty #[v, u]).run Tryd.prog w' = .ok v' w2 ∧ LS q W (A ++ D) v' w2 := by
  obtain ⟨v', w2, h1, h2⟩ := LE.appB h ty hS hn
  exact ⟨v', w2, h1, by unfold LS; rw [List.length_append]; exact h2⟩
theorem LS.push (h : LS q W A v w') (y : Int) (hn : A.length ≤ 1000000) (ty : TypeId) : ∃ v' w2, (Builtin.append_ #[22, 22] ty #[v, .slice (some ⟨w'.heap.size, 0, none⟩) 1 1]).run Tryd.prog (w'.alloc (.cells #[.int .u8 y] 5)) = .ok v' w2 ∧ LS q W (A ++ [y]) v' w2 := by
  obtain ⟨v', w2, h1, h2⟩ := LE.app1 h ty y hn
  exact ⟨v', w2, h1, by unfold LS; rw [List.length_append]; exact h2⟩
theorem LS.below (h : LS q W A v w') (hb : Below w'.heap.size w' w2) : LS q W A v w2 := LE.below h hb
theorem LS.box (h : LS q W A v w') (L : List Nat) : PH q W A v w'.heap.size L (w'.alloc (.cells (VN .i64 L) 78)) := LE.box (T := 5) h L
theorem LS.as (h : LS q W A v w') (e : A = D) : LS q W D v w' := e ▸ h
end
theorem xorKS {k s : Nat} (hk : k ≤ 32) (hs : s ≤ 32) : bits .xor .i64 1779033703 (16842752 + 256 * (k : Int) + (s : Int)) = ((1779033703 ^^^ (16842752 + 256 * k + s) : Nat) : Int) := by
  obtain ⟨y, hy⟩ : ∃ y, 16842752 + 256 * k + s = y := ⟨_, rfl⟩
  have h1 : y < 4294967296 := by omega
  have e : 16842752 + 256 * (k : Int) + (s : Int) = (y : Int) := by omega
  rw [e, hy]
  exact i64_xor_nat 1779033703 y (by decide) h1
theorem wrapKS {k s : Nat} (hk : k ≤ 32) (hs : s ≤ 32) : wrap64 (256 * (k : Int)) = 256 * (k : Int) ∧ wrap64 (16842752 + 256 * (k : Int)) = 16842752 + 256 * (k : Int) ∧ wrap64 (16842752 + 256 * (k : Int) + (s : Int)) = 16842752 + 256 * (k : Int) + (s : Int) :=
  ⟨IntWalk.wrap64_in _ ⟨by omega, by omega⟩, IntWalk.wrap64_in _ ⟨by omega, by omega⟩, IntWalk.wrap64_in _ ⟨by omega, by omega⟩⟩
theorem nbl_next {n k p : Nat} (hp : 64 * k = p) (h : 64 < n - p) : k + 1 ≤ nbl n ∧ 64 * (k + 1) = p + 64 ∧ n - (p + 64) < n - p := by unfold nbl; omega
theorem spl_succ (X : List Nat) (i : Nat) : spl X (i + 1) = spl X i ++ [((bt X i : Nat) : Int)] := by unfold spl; rw [List.range_succ, List.map_append]; rfl
theorem wrap64a {p : Nat} (h : p ≤ 1000000) : wrap64 ((p : Int) + 64) = ((p + 64 : Nat) : Int) := by rw [IntWalk.wrap64_in _ ⟨by omega, by omega⟩]; omega
theorem wrapSub {n p : Nat} (h : p ≤ n) (hn : n ≤ 1000000) : wrap64 ((n : Int) - (p : Int)) = ((n - p : Nat) : Int) ∧ IntKind.i64.wrap ((n : Int) - (p : Int)) = ((n - p : Nat) : Int) := by
  rw [IntWalk.wrap64_in _ ⟨by omega, by omega⟩, IntWalk.i64_in _ ⟨by omega, by omega⟩]
  omega
set_option maxRecDepth 100000 in
set_option maxHeartbeats 16000000 in
theorem rsum_any (W : World) (s : Nat) (hs : 1 ≤ s ∧ s ≤ 32) (key D : List Int) (kn dn : Nat) (hkn : key.length = kn) (hdn : D.length = dn) (hkl : kn ≤ 32) (hkb : Byb key) (hDb : Byb D) (hDl : dn ≤ 200000) (ka da : Option Addr) (kc dc : Nat) (hk : Src W.heap.size W [] (.slice ka kn kc) key) (hd : Src W.heap.size W [] (.slice da dn dc) D) :
    Calls Tryd.prog 12 #[.int .i64 (s : Int), .slice ka kn kc, .slice da dn dc] W fun e w' => ∃ v, e = .returned (.tuple #[v, .int .i64 0]) ∧ LE 5 1 v s ((dig s key D).map (Value.int .u8)) W.heap.size W (.pointer none) [] [] w' := by
  obtain ⟨q, hq⟩ : ∃ q, W.heap.size = q := ⟨_, rfl⟩
  have e0 := ev_nil' W
  rw [hq] at hk hd e0 ⊢
  have E0 : Hid (LS q W [] (.slice none 0 0) W) := ⟨[], lst_nil _ _, e0, (fun p hp => nomatch hp)⟩
  have HK : Hid (Src q W [] (.slice ka kn kc) key ∧ key.length = kn ∧ kn ≤ 32 ∧ Byb key) := ⟨hk, hkn, hkl, hkb⟩
  have HD : Hid (Src q W [] (.slice da dn dc) D ∧ D.length = dn ∧ dn ≤ 200000 ∧ Byb D) := ⟨hd, hdn, hDl, hDb⟩
  have HS : Hid (1 ≤ s ∧ s ≤ 32) := hs
  have b1 : ¬ (s : Int) < 1 := by omega
  have b2 : ¬ (32 : Int) < (s : Int) := by omega
  have b3 : ¬ (32 : Int) < (kn : Int) := by omega
  clear e0 hk hd hkn hdn hkl hkb hDb hDl hq hs
  go_enter Tryd.func12, Tryd.ntmps12
  go_upto_if 28 with fail
  clear b1 b2 b3
  go_cut [8] (fun v wx => LS q W (fil key) v wx)
  case first =>
    by_cases h0 : kn = 0
    · have b4 : ¬ (0 : Int) < (kn : Int) := by omega
      have HF : Hid ([] = fil key) := by
        have : [] = fil key := by unfold fil; rw [if_pos (by rw [HK.out.2.1]; exact h0)]
        exact this
      clear h0
      go_wp2
      go_meet
      exact E0.out.as HF.out
    · have b4 : (0 : Int) < (kn : Int) := by omega
      have b4' : 0 < kn := by omega
      have HF : Hid (key ++ List.replicate (64 - kn) 0 = fil key) := by
        have : key ++ List.replicate (64 - kn) 0 = fil key := by unfold fil; rw [if_neg (by rw [HK.out.2.1]; exact h0), HK.out.2.1]
        exact this
      have HAP : Hid (∀ ty, ∃ v' w', (Builtin.append_ #[22, 22] ty #[.slice none 0 0, .slice ka kn kc]).run Tryd.prog W = .ok v' w' ∧ LS q W key v' w') := fun ty => LS.append (A := []) E0.out HK.out.1 (by have := HK.out.2.1; have := HK.out.2.2.1; simp; omega) ty
      clear E0 h0
      go_upto_region 6 with (first | (at_builtin; refine wpList_app _ rfl (.tmp 29) (.tmp 30) 22 22 rfl _ _ rfl rfl HAP.out ?_; intro v5 w5 h5; have H5 : Hid _ := h5; clear h5))
      clear HAP
      go_loopw [8] (fun v w' => ∃ j : Nat, kn + j ≤ 64 ∧ LS q W (key ++ List.replicate j 0) v w') (fun v _ => 64 - sln v)
      case atStart => exact ⟨0, by have := HK.out.2.2.1; omega, LS.as H5.out (by simp)⟩
      case round =>
        clear H5
        obtain ⟨j, hj, hls⟩ := hrel
        obtain ⟨m, hm⟩ : ∃ m, kn + j = m := ⟨_, rfl⟩
        have HL : Hid ((key ++ List.replicate j (0 : Int)).length = m ∧ kn + j = m ∧ m ≤ 64) := by
          have : (key ++ List.replicate j (0 : Int)).length = m ∧ kn + j = m ∧ m ≤ 64 := ⟨by rw [List.length_append, List.length_replicate, HK.out.2.1]; exact hm, hm, by omega⟩
          exact this
        obtain ⟨au, cu, rfl⟩ := hls.slice HL.out.1
        have HLS : Hid (LS q W (key ++ List.replicate j 0) (.slice au m cu) wr) := hls
        clear hls
        by_cases hlt : m < 64
        · have b5 : (m : Int) < 64 := by omega
          have HAP : Hid (∀ ty, ∃ v' w', (Builtin.append_ #[22, 22] ty #[.slice au m cu, .slice (some ⟨wr.heap.size, 0, none⟩) 1 1]).run Tryd.prog (wr.alloc (.cells #[.int .u8 0] 5)) = .ok v' w' ∧ LS q W (key ++ List.replicate (j + 1) 0) v' w') := fun ty => by
            have := LS.push HLS.out 0 (by rw [HL.out.1]; omega) ty
            rw [List.append_assoc, ← List.replicate_succ'] at this
            exact this
          have HM : Hid (m < 64) := hlt
          clear hj hm hlt
          go_wp2_with (first | (at_builtin; refine wpList_app _ rfl (.tmp 35) (.tmp 36) 22 22 rfl _ _ rfl rfl HAP.out ?_; intro v5 w5 h5; have H5 : Hid _ := h5; clear h5))
          go_roundw
          case rel => exact ⟨j + 1, by have := HL.out; have := HM.out; omega, H5.out⟩
          case measure =>
            obtain ⟨a2, c2, e2⟩ := LS.slice H5.out (n := m + 1) (by have := HL.out.1; simp at this ⊢; omega)
            rw [e2]
            have := HM.out
            simp only [sln]
            omega
        · have b5 : ¬ (m : Int) < 64 := by omega
          have HE : Hid (LS q W (fil key) (.slice au m cu) wr) := HLS.out.as (by rw [← HF.out]; congr 2; omega)
          clear hj hm hlt
          go_wp2
          go_meet
          exact HE.out
  case rest =>
    obtain ⟨fk, hfk⟩ : ∃ n, (fil key).length = n := ⟨_, rfl⟩
    obtain ⟨au, cu, rfl⟩ := hcut.slice hfk
    have HC : Hid (LS q W (fil key) (.slice au fk cu) _) := hcut
    have HFK : Hid ((fil key).length = fk ∧ fk ≤ 64) := by
      have := fil_len key (by rw [HK.out.2.1]; exact HK.out.2.2.1)
      have : (fil key).length = fk ∧ fk ≤ 64 := ⟨hfk, by rw [← hfk, this]; split <;> omega⟩
      exact this
    obtain ⟨A, hA⟩ : ∃ A, fil key ++ D = A := ⟨_, rfl⟩
    obtain ⟨n, hn⟩ : ∃ n, A.length = n := ⟨_, rfl⟩
    have HA : Hid (fil key ++ D = A ∧ A.length = n ∧ n ≤ 200064 ∧ Byb A) := by
      have : fil key ++ D = A ∧ A.length = n ∧ n ≤ 200064 ∧ Byb A := ⟨hA, hn, by rw [← hn, ← hA, List.length_append]; have := HFK.out; have := HD.out.2.1; have := HD.out.2.2.1; omega, fun x hx => by
        rw [← hA] at hx
        rcases List.mem_append.1 hx with hx | hx
        · exact fil_byb HK.out.2.2.2 x hx
        · exact HD.out.2.2.2 x hx⟩
      exact this
    have HAP : Hid (∀ ty, ∃ v' w', (Builtin.append_ #[22, 22] ty #[.slice au fk cu, .slice da dn dc]).run Tryd.prog _ = .ok v' w' ∧ LS q W A v' w') := fun ty => by
      have := LS.append HC.out HD.out.1 (by have := HFK.out; have := HD.out.2.1; have := HD.out.2.2.1; omega) ty
      rw [HA.out.1] at this
      exact this
    clear hcut hfk hA hn
    have HIV : Hid ((Tryd.prog.info? 78).map (·.size) = some (VN .i64 iv).size) := info8i
    have HSV : Hid ((VN .i64 z8n).size = (VN .i64 iv).size) := rfl
    go_upto_region 10 with (first | (at_builtin; refine wpList_app _ rfl (.tmp 38) (.tmp 39) 22 22 rfl _ _ rfl rfl HAP.out ?_; intro v5 w5 h5; have CB : Hid (Calls Tryd.prog 32 #[] w5 fun e w' => e = .returned (.agg (VN .i64 iv)) ∧ Below w5.heap.size w5 w') := rbegin w5; have H5 : Hid (LS q W A v5 w5) := h5; clear h5) | (go_at_call 32; refine Calls.mono CB.out ?_; rintro e W1 ⟨rfl, hb1⟩; have H6 : Hid (LS q W A v5 W1) := H5.out.below hb1; clear hb1 CB) | (with_reducible refine at_list ?_; first | (refine hold_store 78 (.tmp 9) (.tmp 41) rfl ?_)))
    refine store_row_new rfl 78 (.tmp 9) (.tmp 41) rfl W1.heap.size (VN .i64 iv) rfl rfl rfl 78 (VN .i64 z8n) HIV.out HSV.out (VN_one _ _) ?_
    have hph := H6.out.box iv
    obtain ⟨a5, c5, rfl⟩ := H6.out.slice HA.out.2.1
    obtain ⟨g, hg⟩ : ∃ g, W1.heap.size = g := ⟨_, rfl⟩
    obtain ⟨W2, hW2⟩ : ∃ V, W1.alloc (.cells (VN .i64 iv) 78) = V := ⟨_, rfl⟩
    rw [hW2, hg] at hph
    rw [hW2, hg]
    have c1 : W2.cell? ⟨g, 0, none⟩ = some (.int .i64 1779033703) := by rw [cell_of_row _ _ _ _ _ _ hph.row]; rfl
    have f1 : W2.frozen? ⟨g, 0, none⟩ = false := frozen_of_row _ _ _ _ _ hph.row
    have hxy := xorKS HK.out.2.2.1 HS.out.2
    obtain ⟨x0, hx0⟩ : ∃ x, 1779033703 ^^^ (16842752 + 256 * kn + s) = x := ⟨_, rfl⟩
    rw [hx0] at hxy
    have HX : Hid (PH q W A (.slice a5 n c5) g (h0 s kn) (W2.setCell ⟨g, 0, none⟩ (.int .i64 (x0 : Int)))) := by
      have := hph.set 0 x0
      have e : iv.set 0 x0 = h0 s kn := by rw [← hx0]; rfl
      rw [e] at this
      exact this
    clear hph hW2 hg H6 H5 HAP HC HIV HSV HFK hx0
    obtain ⟨w1, w2, w3⟩ := wrapKS HK.out.2.2.1 HS.out.2
    obtain ⟨W3, hW3⟩ : ∃ V, W2.setCell ⟨g, 0, none⟩ (.int .i64 (x0 : Int)) = V := ⟨_, rfl⟩
    rw [hW3] at HX
    go_upto_region 12 with fail
    clear w1 w2 w3 hxy c1 f1
    try rw [hW3]
    clear hW3
    go_loopw [10] (fun v w' => ∃ k : Nat, k ≤ nbl n ∧ v = .int .i64 ((64 * k : Nat) : Int) ∧ PH q W A (.slice a5 n c5) g (prn (h0 s kn) A k) w') (fun v _ => n - (intOf v).toNat)
    case atStart => exact ⟨0, Nat.zero_le _, rfl, HX.out⟩
    case round =>
      clear HX
      obtain ⟨k, hk, rfl, hph⟩ := hrel
      obtain ⟨p, hp⟩ : ∃ p, 64 * k = p := ⟨_, rfl⟩
      have hpn : p ≤ n := by have := nbl_le n; omega
      have hnc : n ≤ c5 := by
        obtain ⟨lb, h1, _, _⟩ := hph
        rcases h1.2 with ⟨e1, e2, _⟩ | ⟨gl, cap, cur, e1, _, e3, _⟩
        · injection e1 with _ e _; omega
        · injection e1 with _ e e'; rw [e, e']; exact e3
      have HP : Hid (64 * k = p ∧ p ≤ n ∧ n ≤ 200064 ∧ k ≤ nbl n ∧ n ≤ c5) := ⟨hp, hpn, HA.out.2.2.1, hk, hnc⟩
      have HPH : Hid (PH q W A (.slice a5 n c5) g (prn (h0 s kn) A k) wr) := hph
      have HL8 : Hid (S8 (prn (h0 s kn) A k)) := prn_s8 (h0_s8 HS.out.2 HK.out.2.2.1) A k
      rw [hp]
      obtain ⟨wsb, wsb'⟩ := wrapSub hpn (by have := HA.out.2.2.1; omega : n ≤ 1000000)
      clear hph hk hp hnc
      by_cases hlt : 64 < n - p
      · have b5 : (64 : Int) < ((n - p : Nat) : Int) := by omega
        have HLT : Hid (64 < n - p) := hlt
        clear hlt hpn
        go_upto_region 13 with fail
        clear wsb wsb'
        refine wp_as (c' := rgRs13) (by kernel_rfl) ?_
        refine Rs13 (g := g) (n := n) (cap := c5) (p := p) (sa := a5) (L := prn (h0 s kn) A k) (M := prn (h0 s kn) A (k + 1))
          (R0 := PH q W A (.slice a5 n c5) g (prn (h0 s kn) A k)) (R1 := PH q W A (.slice a5 n c5) g (prn (h0 s kn) A k)) (R2 := PH q W A (.slice a5 n c5) g (prn (h0 s kn) A (k + 1)))
          HL8.out.len (fun Y h => h.range) (by have := HP.out; show p ≤ 1000000; omega) (by have := HP.out; have := HLT.out; show p + 64 ≤ c5; omega) HPH.out.drew (fun _ _ => trivial) ?_ (fun _ _ => trivial) ?_ (fun _ _ => trivial) (fun _ _ d _ _ h => by cases d <;> exact h) ?_
        · intro Y hY
          have hh := HP.out
          have hl := HLT.out
          have := hY.press HA.out.2.2.2 HL8.out (x := p) (y := p + 64) (c := p + 64) (last := false) (mk := 0) (by decide) (by omega) (by omega) (by omega) (by omega)
          have e1 : p + 64 - p = 64 := by omega
          have e2 : 64 * (k + 1) = p + 64 := by omega
          rw [prn, e2, hh.1]
          rw [e1] at this ⊢
          exact this
        · intro Y hY ac o K Q ho hd hx hy hK
          have hM : (prn (h0 s kn) A (k + 1)).length = 8 := (prn_s8 (h0_s8 HS.out.2 HK.out.2.2.1) A (k + 1)).len
          have ht := row_there hY.row
          rw [List.length_map, HL8.out.len] at ht
          refine wp_store_mid (P := Tryd.prog) 78 (.tmp 9) (.tmp 65) ho g 0 (VN .i64 (prn (h0 s kn) A (k + 1))) hx hy (by rw [VN_size, hM]; exact ht) (by rw [VN_size, hM]; exact info8i) (VN_one _ _) ?_
          rw [hd]
          exact hK _ (hY.put (by rw [hM, HL8.out.len]))
        intro W5 h5
        have H5 : Hid _ := h5
        have WA : Hid (wrap64 ((p : Int) + 64) = ((p + 64 : Nat) : Int)) := wrap64a (p := p) (by have := HP.out; omega)
        have HN : Hid (k + 1 ≤ nbl n ∧ 64 * (k + 1) = p + 64 ∧ n - (p + 64) < n - p) := nbl_next HP.out.1 HLT.out
        clear h5 HPH
        go_wp2
        go_roundw
        case rel => exact ⟨k + 1, HN.out.1, by rw [HN.out.2.1]; exact congrArg (Value.int .i64) WA.out, H5.out⟩
        case measure => rw [WA.out]; exact HN.out.2.2
      · have b5 : ¬ (64 : Int) < ((n - p : Nat) : Int) := by omega
        have HE : Hid (k = nbl n ∧ p ≤ n ∧ n - p ≤ 64) := by
          have hh := HP.out
          have : k = nbl n ∧ p ≤ n ∧ n - p ≤ 64 := ⟨by unfold nbl at hh ⊢; omega, hh.2.1, by omega⟩
          exact this
        clear hlt hpn
        go_upto_region 15 with fail
        clear wsb wsb'
        refine wp_as (c' := rgRs15) (by kernel_rfl) ?_
        refine Rs15 (g := g) (n := n) (cap := c5) (p := p) (sa := a5) (L := prn (h0 s kn) A k) (M := dgw (h0 s kn) A)
          (R0 := PH q W A (.slice a5 n c5) g (prn (h0 s kn) A k)) (R1 := PH q W A (.slice a5 n c5) g (prn (h0 s kn) A k)) (R2 := PH q W A (.slice a5 n c5) g (dgw (h0 s kn) A))
          HL8.out.len (fun Y h => h.range) (by have := HP.out; show p ≤ n ∧ n ≤ c5; omega) HPH.out.drew (fun _ _ => trivial) ?_ (fun _ _ => trivial) ?_ (fun _ _ => trivial) (fun _ _ d _ _ h => by cases d <;> exact h) ?_
        · intro Y hY
          have hh := HP.out
          have he := HE.out
          have := hY.press HA.out.2.2.2 HL8.out (x := p) (y := n) (c := n) (last := true) (mk := 4294967295) (by decide) (by omega) (by omega) (by omega) (by omega)
          have e3 : (A.drop p).take (n - p) = hld A := by
            unfold hld
            rw [HA.out.2.1, ← he.1, hh.1, List.take_of_length_le (by rw [List.length_drop, HA.out.2.1]; exact Nat.le_refl _)]
          have e4 : dgw (h0 s kn) A = prs (prn (h0 s kn) A k) (hld A) n 4294967295 := by unfold dgw; rw [HA.out.2.1, ← he.1]
          rw [e4]
          rw [e3] at this
          exact this
        · intro Y hY ac o K Q ho hd hx hy hK
          have hM : (dgw (h0 s kn) A).length = 8 := (dgw_s8 (h0_s8 HS.out.2 HK.out.2.2.1) A).len
          have ht := row_there hY.row
          rw [List.length_map, HL8.out.len] at ht
          refine wp_store_mid (P := Tryd.prog) 78 (.tmp 9) (.tmp 74) ho g 0 (VN .i64 (dgw (h0 s kn) A)) hx hy (by rw [VN_size, hM]; exact ht) (by rw [VN_size, hM]; exact info8i) (VN_one _ _) ?_
          rw [hd]
          exact hK _ (hY.put (by rw [hM, HL8.out.len]))
        intro W5 h5
        have HX8 : Hid (S8 (dgw (h0 s kn) A) ∧ spl (dgw (h0 s kn) A) s = dig s key D) := by
          have : S8 (dgw (h0 s kn) A) ∧ spl (dgw (h0 s kn) A) s = dig s key D := ⟨dgw_s8 (h0_s8 HS.out.2 HK.out.2.2.1) A, by unfold dig; rw [HK.out.2.1, HA.out.1]⟩
          exact this
        obtain ⟨X, hX⟩ : ∃ X, dgw (h0 s kn) A = X := ⟨_, rfl⟩
        rw [hX] at h5 HX8
        have H5 : Hid _ := h5.out
        clear h5 HPH hX HL8 HE HP
        go_wp2
        go_loopw [11, 12] (fun v vi w' => ∃ i : Nat, i ≤ s ∧ vi = .int .i64 (i : Int) ∧ LE 5 1 v i ((spl X i).map (Value.int .u8)) q W (.pointer none) [] [(g, .cells (VN .i64 X) 78)] w') (fun _ vi _ => s - (intOf vi).toNat)
        case atStart => exact ⟨0, Nat.zero_le _, rfl, H5.out⟩
        case round =>
          clear H5
          obtain ⟨i, hi, rfl, hle⟩ := hrel
          have HLE : Hid (LE 5 1 u11 i ((spl X i).map (Value.int .u8)) q W (.pointer none) [] [(g, .cells (VN .i64 X) 78)] wr) := hle
          by_cases hlt : i < s
          · have b6 : (i : Int) < (s : Int) := by omega
            have hs32 := HS.out.2
            obtain ⟨m4, hm4⟩ : ∃ m, i % 4 = m := ⟨_, rfl⟩
            obtain ⟨q4, hq4⟩ : ∃ m, i / 4 = m := ⟨_, rfl⟩
            have hq8 : q4 < 8 := by omega
            have c1 : wr.cell? ⟨g, q4, none⟩ = some (.int .i64 ((X.getD q4 0 : Nat) : Int)) := by rw [cell_of_row _ _ _ _ _ _ (hle.ev.row mem0), VN_at _ _ _ (by rw [HX8.out.1.len]; exact hq8)]
            have hx := HX8.out.1.bd.at q4
            have HBT : Hid (X.getD q4 0 / 256 ^ m4 % 256 = bt X i ∧ i < s ∧ s ≤ 32) := by
              have : X.getD q4 0 / 256 ^ m4 % 256 = bt X i ∧ i < s ∧ s ≤ 32 := ⟨by unfold bt; rw [hm4, hq4], hlt, hs32⟩
              exact this
            obtain ⟨x, hxe⟩ : ∃ x, X.getD q4 0 = x := ⟨_, rfl⟩
            rw [hxe] at c1 hx HBT
            have d1 : (i : Int).tdiv 4 = (q4 : Int) := by rw [← hq4]; rfl
            have d2 : (i : Int) / 4 = (q4 : Int) := by omega
            have d3 : (i : Int).tmod 4 = (m4 : Int) := by rw [← hm4]; rfl
            have d4 : (i : Int) % 4 = (m4 : Int) := by omega
            have hm3 : m4 ≤ 3 := by omega
            clear hle hxe hm4 hq4
            go_wp2
            go_loopw [13, 14] (fun u v w' => ∃ k : Nat, k ≤ m4 ∧ u = .int .i64 ((x / 256 ^ k : Nat) : Int) ∧ v = .int .i64 (k : Int) ∧ w' = wr) (fun _ v _ => m4 - (intOf v).toNat)
            case atStart => exact ⟨0, by omega, by simp, rfl, rfl⟩
            case round =>
              obtain ⟨k, hk, rfl, rfl, hw'⟩ := hrel
              obtain rfl := hw'
              have hu1 : x / 256 ^ k < 4294967296 := Nat.lt_of_le_of_lt (Nat.div_le_self _ _) hx
              by_cases hkt : k < m4
              · have b7 : (k : Int) < (m4 : Int) := by omega
                obtain ⟨u, hu⟩ : ∃ u, x / 256 ^ k = u := ⟨_, rfl⟩
                obtain ⟨v, hv⟩ : ∃ v, u / 256 = v := ⟨_, rfl⟩
                have HU : Hid (x / 256 ^ (k + 1) = v) := by
                  have : x / 256 ^ (k + 1) = v := by rw [Nat.pow_succ, ← Nat.div_div_eq_div_mul, hu, hv]
                  exact this
                rw [hu] at hu1 ⊢
                have e1 : (u : Int).tdiv 256 = (v : Int) := by rw [← hv]; rfl
                have e2 : (u : Int) / 256 = (v : Int) := by omega
                have hv1 : v < 4294967296 := by omega
                clear hu hv
                go_wp2
                go_roundw
                case rel => exact ⟨k + 1, by omega, by rw [HU.out], by go_num, trivial⟩
                case measure => simp [intOf]; omega
              · have b7 : ¬ (k : Int) < (m4 : Int) := by omega
                have hk4 : k = m4 := by omega
                subst hk4
                obtain ⟨u, hu⟩ : ∃ u, x / 256 ^ k = u := ⟨_, rfl⟩
                rw [hu] at hu1 HBT ⊢
                obtain ⟨y, hy⟩ : ∃ y, bt X i = y := ⟨_, rfl⟩
                have hy2 : u % 256 = y := by rw [← hy]; exact HBT.out.1
                have e1 : (u : Int).tmod 256 = (y : Int) := by rw [← hy2]; rfl
                have e2 : (u : Int) % 256 = (y : Int) := by rw [← hy2]; rfl
                have hyl : y < 256 := by omega
                have e3 : IntKind.u8.wrap (y : Int) = (y : Int) := IntWalk.u8_in _ ⟨by omega, by omega⟩
                have HAP : Hid (∀ ty, ∃ v' w', (Builtin.append_ #[22, 22] ty #[u11, .slice (some ⟨wr.heap.size, 0, none⟩) 1 1]).run Tryd.prog (wr.alloc (.cells #[.int .u8 (y : Int)] 5)) = .ok v' w' ∧ LE 5 1 v' (i + 1) ((spl X (i + 1)).map (Value.int .u8)) q W (.pointer none) [] [(g, .cells (VN .i64 X) 78)] w') := fun ty => by
                  have := LE.app1 HLE.out ty (y : Int) (by have := HBT.out; omega)
                  rw [← hy, ← spl_succ, hy] at this
                  exact this
                clear hu hy hy2 HLE
                go_wp2_with (first | (at_builtin; refine wpList_app _ rfl (.tmp 92) (.tmp 96) 22 22 rfl _ _ rfl rfl HAP.out ?_; intro v5 w5 h5; have H5 : Hid _ := h5; clear h5))
                go_roundw
                case rel => exact ⟨i + 1, HBT.out.2.1, by go_num, H5.out⟩
                case measure => have := HBT.out; simp [intOf]; omega
          · have b6 : ¬ (i : Int) < (s : Int) := by omega
            have ei : i = s := by omega
            rw [ei, HX8.out.2] at hle
            have HF : Hid (LE 5 1 u11 s ((dig s key D).map (Value.int .u8)) q W (.pointer none) [] [] wr) := by
              obtain ⟨lb, h1, h2, h3⟩ := hle
              have : LE 5 1 u11 s ((dig s key D).map (Value.int .u8)) q W (.pointer none) [] [] wr := ⟨lb, h1, h2.sub (fun p hp => by rw [List.append_nil] at hp; exact List.mem_append_left _ hp), fun p hp r hr => nomatch hr⟩
              exact this
            clear hle HLE ei hlt hi
            go_wp2
            go_ret2
            exact ⟨_, rfl, HF.out⟩
end Go.Proofs.YtfkbgodfcnmepaaDoor
namespace Go.Proofs.YtfkbgodfcnmepaaDoor
set_option linter.unusedSimpArgs false
set_option linter.unusedVariables false
open Go.ChangeShapes Go.WideShapes Go.ChangeAt Go.RowKit Go.Pin Go.Str Go.Dig
set_option maxRecDepth 100000 in
set_option maxHeartbeats 4000000 in
theorem rsum_bad (W : World) (z : Int) (ka : Option Addr) (kn kc : Nat) (dv : Value) (hbad : z < 1 ∨ 32 < z ∨ 32 < kn) :
    Calls Tryd.prog 12 #[.int .i64 z, .slice ka kn kc, dv] W fun e w' => e = .returned (.tuple #[.slice none 0 0, .int .i64 1]) ∧ w' = W := by
  by_cases h1 : z < 1
  · go_enter Tryd.func12, Tryd.ntmps12
    go_wp2
    go_ret2
    exact ⟨rfl, rfl⟩
  · by_cases h2 : 32 < z
    · go_enter Tryd.func12, Tryd.ntmps12
      go_wp2
      go_ret2
      exact ⟨rfl, rfl⟩
    · have h3 : (32 : Int) < (kn : Int) := by omega
      have h3' : 32 < kn := by omega
      go_enter Tryd.func12, Tryd.ntmps12
      go_wp2
      go_ret2
      exact ⟨rfl, rfl⟩
end Go.Proofs.YtfkbgodfcnmepaaDoor
namespace Go.Proofs.YtfkbgodfcnmepaaDoor
set_option linter.unusedSimpArgs false
set_option linter.unusedVariables false
open Go.ChangeShapes Go.WideShapes Go.ChangeAt Go.RowKit Go.Pin Go.Str Go.Dig
theorem Src.rb {W : World} {bx : List (Nat × Obj)} {v : Value} {D : List Int} (h : Src W.heap.size W bx v D) (hb : ∀ p ∈ bx, W.heap[p.1]? = some p.2) : RdB W v D := by
  obtain ⟨a, c, e, h1, h2⟩ := h
  refine ⟨a, c, e, h1, h2.imp id ?_⟩
  rintro ⟨b, o, h3, h4⟩
  exact ⟨b, o, h3, h4 W (Below.refl _ _) hb⟩
theorem Ev.rb {B : Nat} {w : World} {rv : Value} {l : List (Int × Int)} {bx : List (Nat × Obj)} {Y : World} (he : Ev B w rv l bx Y) {v : Value} {D : List Int} (h : Src B w bx v D) : RdB Y v D := (h.at_ he []).rb (fun p hp => nomatch hp)
theorem row_rd {W : World} {g : Nat} {L : List Int} {T : TypeId} (h : W.heap[g]? = some (.cells (VI .u8 L) T)) {n cap : Nat} (hn : L.length = n) (hc : n ≤ cap) : RdB W (.slice (some ⟨g, 0, none⟩) n cap) L := ⟨_, cap, by rw [hn], by omega, .inr ⟨g, 0, rfl, row_range h⟩⟩
set_option maxRecDepth 100000 in
set_option maxHeartbeats 4000000 in
theorem same_any (va vb : Value) (D : List Int) (hD : D.length ≤ 1000000) (w : World) (ha : RdB w va D) (hb : RdB w vb D) :
    Calls Tryd.prog 21 #[va, vb] w fun e w' => e = .returned (.bool true) ∧ Below w.heap.size w w' := by
  obtain ⟨q, hq⟩ : ∃ q, w.heap.size = q := ⟨_, rfl⟩
  obtain ⟨a, ca, rfl, _, _⟩ := id ha
  obtain ⟨b, cb, rfl, _, _⟩ := id hb
  obtain ⟨n, hn⟩ : ∃ n, D.length = n := ⟨_, rfl⟩
  rw [hn] at ha hb hD ⊢
  obtain ⟨_, _, ha⟩ := rdb_at hq ha
  obtain ⟨_, _, hb⟩ := rdb_at hq hb
  have HA : Hid _ := ha
  have HB : Hid _ := hb
  rw [hq]
  have HQ : Hid (w.heap.size = q) := hq
  clear ha hb hn hq
  go_enter Tryd.func21, Tryd.ntmps21
  go_wp2
  go_loopw [5] (fun v w' => ∃ i : Nat, i ≤ n ∧ v = .int .i64 i ∧ Below q w w') (fun v _ => n - (intOf v).toNat)
  case atStart => exact ⟨0, by omega, rfl, Below.refl _ _⟩
  case round =>
    obtain ⟨i, hi, rfl, hp⟩ := hrel
    by_cases hlt : i < n
    · obtain ⟨g, o, rfl, _, c1⟩ := HA.out i hlt
      obtain ⟨g', o', rfl, _, c2⟩ := HB.out i hlt
      have c1 := c1 wr hp
      have c2 := c2 wr hp
      have b1 : (i : Int) < (n : Int) := by omega
      generalize D.getD i 0 = z at *
      have HP : Hid (Below q w wr) := hp
      clear HA HB hp HQ
      go_wp2
      go_quiet (fail)
      go_wp2
      go_roundw
      case rel => exact ⟨i + 1, by omega, by go_num, drewN_below HP.out _⟩
      case measure => simp [intOf]; omega
    · have b1 : ¬ (i : Int) < (n : Int) := by omega
      have HP : Hid (Below q w wr) := hp
      clear HA HB hp
      go_wp2
      go_ret
      exact ⟨rfl, HP.out⟩
end Go.Proofs.YtfkbgodfcnmepaaDoor
namespace Go.Proofs.YtfkbgodfcnmepaaDoor
set_option linter.unusedSimpArgs false
set_option linter.unusedVariables false
open Go.ChangeShapes Go.WideShapes Go.ChangeAt Go.RowKit Go.Pin Go.Str Go.Dig
theorem rop2 (v : Int) (w : World) : Calls Tryd.prog 38 #[.int .i64 v] w fun e w' => e = .returned (.agg #[.int .i64 3, .int .i64 v]) ∧ w' = w.alloc (.cells #[.int .i64 3, .int .i64 v] 82) := by
  go_enter Tryd.func38, Tryd.ntmps38
  go_wp2
  exact bodyPost_ret (v := .agg #[.int .i64 3, .int .i64 v]) (by simp [results, Tryd.results38, go_sem]) rfl ⟨rfl, rfl⟩
theorem rat2 (v : Int) (w : World) : Calls Tryd.prog 37 #[.int .i64 v] w fun e w' => e = .returned (.agg #[.int .i64 2, .int .i64 v]) ∧ w' = w.alloc (.cells #[.int .i64 2, .int .i64 v] 82) := by
  go_enter Tryd.func37, Tryd.ntmps37
  go_wp2
  exact bodyPost_ret (v := .agg #[.int .i64 2, .int .i64 v]) (by simp [results, Tryd.results37, go_sem]) rfl ⟨rfl, rfl⟩
theorem rif2 (b : Bool) (w : World) : Calls Tryd.prog 36 #[.bool b] w fun e w' => e = .returned (.agg #[.int .i64 1, .int .i64 (if b then 1 else 0)]) ∧ w' = w.alloc (.cells #[.int .i64 1, .int .i64 (if b then 1 else 0)] 82) := by
  cases b
  · go_enter Tryd.func36, Tryd.ntmps36
    go_wp2
    exact bodyPost_ret (v := .agg #[.int .i64 1, .int .i64 0]) (by simp [results, Tryd.results36, go_sem]) rfl ⟨rfl, rfl⟩
  · go_enter Tryd.func36, Tryd.ntmps36
    go_wp2
    exact bodyPost_ret (v := .agg #[.int .i64 1, .int .i64 1]) (by simp [results, Tryd.results36, go_sem]) rfl ⟨rfl, rfl⟩
structure Evl (B : Nat) (w : World) (v : Value) (l : List (Int × Int)) (wr : World) : Prop where
  old : Below B w wr
  le : B ≤ wr.heap.size
  own : wr.ownsRow B 82 2 v l.length (evC l)
theorem Evl.app {B : Nat} {w : World} {v : Value} {l : List (Int × Int)} {wr : World} (h : Evl B w v l wr) {W : World} (hb : Below wr.heap.size wr W) (news : List (Int × Int)) {g k : Nat} (hk : k = news.length) (hrow : W.heap[g]? = some (.cells (evC news).toArray 82 (0, 0))) (hl : l.length + k ≤ 1000000) (ty : TypeId) :
    ∃ v' w', (Builtin.append_ #[36, 36] ty #[v, .slice (some ⟨g, 0, none⟩) k k]).run Tryd.prog W = .ok v' w' ∧ Evl B w v' (l ++ news) w' := by
  subst hk
  obtain ⟨i0, hi0, hz0⟩ := Option.map_eq_some_iff.1 info37
  simp only [Prod.mk.injEq] at hz0
  obtain ⟨hz1, hz2, hz3⟩ := hz0
  have ho := owns_below h.own hb
  have hBW : B ≤ W.heap.size := Nat.le_trans h.le hb.size
  obtain ⟨v', w', hr, h2, h3, _, h5⟩ := run_append_own_at (P := Tryd.prog) W B 36 ty 82 i0 (.agg #[.int .i64 0, .int .i64 0]) 2 16 Tryd.underlying36 hi0 hz1 hz2 hz3 rfl (by decide) v l.length (evC l) ho ⟨g, 0, none⟩ news.length news.length (evC news) (evC_len news) (fun j u hj => by
      rw [add_mid, cell_of_row _ _ _ _ _ _ hrow, Nat.zero_add]
      simpa using hj) (fun u hu => by
      simp only [evC, List.mem_flatMap, List.mem_cons, List.not_mem_nil, or_false] at hu
      obtain ⟨x, _, rfl | rfl⟩ := hu <;> rfl) (by unfold maxLen; omega) (by omega) hBW
  refine ⟨v', w', hr, (h.old.trans (hb.mono h.le)).trans ⟨h3.os, h3.tape, h3.output, h3.size, fun k hk => h3.block k (by omega) (fun e => by have := (ho.lt k e.symm).1; omega)⟩, Nat.le_trans hBW h3.size, ?_⟩
  rw [List.length_append, evC_app]
  exact h2
/-- events of another list come to a list of one's own -/
theorem Evl.appL {B : Nat} {w : World} {v : Value} {l : List (Int × Int)} {wr : World} (h : Evl B w v l wr) {W : World} (hb : Below wr.heap.size wr W) {B' : Nat} {u : Value} {news : List (Int × Int)} (hu : W.ownsRow B' 82 2 u news.length (evC news)) (h0 : 0 < news.length) (hl : l.length + news.length ≤ 1000000) (ty : TypeId) :
    ∃ v' w', (Builtin.append_ #[36, 36] ty #[v, u]).run Tryd.prog W = .ok v' w' ∧ Evl B w v' (l ++ news) w' := by
  obtain ⟨i0, hi0, hz0⟩ := Option.map_eq_some_iff.1 info37
  simp only [Prod.mk.injEq] at hz0
  obtain ⟨hz1, hz2, hz3⟩ := hz0
  have ho := owns_below h.own hb
  have hBW : B ≤ W.heap.size := Nat.le_trans h.le hb.size
  rcases hu.2 with ⟨_, e⟩ | ⟨g, cap, cur, rfl, _, hg, hn, hm, hs, ht⟩
  · omega
  · have hc := hu.cells (g := g) rfl
    obtain ⟨v', w', hr, h2, h3, _, h5⟩ := run_append_own_at (P := Tryd.prog) W B 36 ty 82 i0 (.agg #[.int .i64 0, .int .i64 0]) 2 16 Tryd.underlying36 hi0 hz1 hz2 hz3 rfl (by decide) v l.length (evC l) ho ⟨g, 0, none⟩ news.length cap (evC news) (evC_len news) hc (fun u hu => by
        simp only [evC, List.mem_flatMap, List.mem_cons, List.not_mem_nil, or_false] at hu
        obtain ⟨x, _, rfl | rfl⟩ := hu <;> rfl) (by unfold maxLen; omega) (by omega) hBW
    refine ⟨v', w', hr, (h.old.trans (hb.mono h.le)).trans ⟨h3.os, h3.tape, h3.output, h3.size, fun k hk => h3.block k (by omega) (fun e => by have := (ho.lt k e.symm).1; omega)⟩, Nat.le_trans hBW h3.size, ?_⟩
    rw [List.length_append, evC_app]
    exact h2
/-- numbers that are read -/
def RdN (W : World) (a : Option Addr) (ns : List Nat) : Prop := ∀ i, i < ns.length → ∃ b o, a = some ⟨b, o, none⟩ ∧ W.cell? ⟨b, o + i, none⟩ = some (.int .i64 ((ns.getD i 0 : Nat) : Int))
theorem takeN_snoc (ns : List Nat) {i : Nat} (h : i < ns.length) : ns.take (i + 1) = ns.take i ++ [ns.getD i 0] := by
  rw [List.take_add_one, List.getD_eq_getElem?_getD, List.getElem?_eq_getElem h]
  rfl
theorem takeN_sum : ∀ (ns : List Nat) (i : Nat), (ns.take i).sum + ns.getD i 0 ≤ ns.sum
  | [], i => by simp
  | m :: r, 0 => by simp
  | m :: r, i + 1 => by
    have := takeN_sum r i
    simp at this ⊢
    omega
theorem Evl.one {B : Nat} {w : World} {v : Value} {l : List (Int × Int)} {W : World} (h : Evl B w v l W) (x y : Int) (hl : l.length ≤ 900000) (ty : TypeId) : ∃ v' w', (Builtin.append_ #[36, 36] ty #[v, .slice (some ⟨W.heap.size + 1, 0, none⟩) 1 1]).run Tryd.prog ((W.alloc (.cells #[.int .i64 x, .int .i64 y] 82)).alloc (.cells #[.int .i64 x, .int .i64 y] 82)) = .ok v' w' ∧ Evl B w v' (l ++ [(x, y)]) w' :=
  h.app (((Below.refl _ _).alloc (Nat.le_refl _) _).alloc (by simp) _) [(x, y)] rfl (by rw [heap_alloc_any, if_pos (by simp [size_alloc])]; rfl) (by simp; omega) ty
theorem Evl.two {B : Nat} {w : World} {v : Value} {l : List (Int × Int)} {W : World} (h : Evl B w v l W) (x y x' y' : Int) (hl : l.length ≤ 900000) (ty : TypeId) : ∃ v' w', (Builtin.append_ #[36, 36] ty #[v, .slice (some ⟨W.heap.size + 1 + 1, 0, none⟩) 2 2]).run Tryd.prog (((W.alloc (.cells #[.int .i64 x, .int .i64 y] 82)).alloc (.cells #[.int .i64 x', .int .i64 y'] 82)).alloc (.cells #[.int .i64 x, .int .i64 y, .int .i64 x', .int .i64 y'] 82)) = .ok v' w' ∧ Evl B w v' (l ++ [(x, y), (x', y')]) w' :=
  h.app ((((Below.refl _ _).alloc (Nat.le_refl _) _).alloc (by simp) _).alloc (by simp; omega) _) [(x, y), (x', y')] rfl (by rw [heap_alloc_any, if_pos (by simp [size_alloc])]; rfl) (by simp; omega) ty
theorem evl_nil {B : Nat} {w : World} (hB : w.heap.size = B) : Evl B w (.slice none 0 0) [] w := ⟨Below.refl _ _, by rw [hB]; exact Nat.le_refl _, World.ownsRow_nil _ _ _ _⟩
/-- P8.6 -/
def elog (z : Int) (k : Nat) : List (Int × Int) := if z < 1 ∨ 32 < z ∨ 32 < k then blg z else [(1, 0), (1, 0), (1, 0), (1, if k = 0 then 0 else 1)]
theorem elog_nlg {z : Int} {D : List Int} (hz : ¬ (z < 1 ∨ 32 < z ∨ 32 < D.length)) : elog z D.length = nlg D := by unfold elog nlg; rw [if_neg hz]
set_option maxRecDepth 100000 in
theorem esum_any (h : Nat) (w : World) : Calls Tryd.prog 20 #[.int .i64 (h : Int)] w fun e w' => ∃ u, e = .returned u ∧ Evl w.heap.size w u [(2, (h : Int)), (3, 31)] w' := by
  obtain ⟨B, hB⟩ : ∃ B, w.heap.size = B := ⟨_, rfl⟩
  have h0 := evl_nil hB
  have HAP : Hid _ := fun ty => h0.two 2 (h : Int) 3 31 (by simp) ty
  rw [hB]
  clear hB h0
  go_enter Tryd.func20, Tryd.ntmps20
  go_wp2_with (first | (go_at_call 37; refine (rat2 (h : Int) _).mono ?_; rintro e wi ⟨rfl, hw⟩; obtain rfl := hw) | (go_at_call 38; refine (rop2 31 _).mono ?_; rintro e wi ⟨rfl, hw⟩; obtain rfl := hw) | (at_builtin; refine wpList_app _ rfl (.tmp 4) (.tmp 8) 36 36 rfl _ _ rfl rfl HAP.out ?_; intro av aw ah; have aH : Hid _ := ah; clear ah HAP))
  go_ret
  exact ⟨av, rfl, aH.out⟩
set_option maxRecDepth 100000 in
set_option maxHeartbeats 4000000 in
theorem enew1 (z : Int) (k : Nat) (hz : z < 1) (w : World) : Calls Tryd.prog 17 #[.int .i64 z, .int .i64 (k : Int)] w fun e w' => ∃ u, e = .returned u ∧ Evl w.heap.size w u (elog z k) w' := by
  obtain ⟨B, hB⟩ : ∃ B, w.heap.size = B := ⟨_, rfl⟩
  have h0 := evl_nil hB
  rw [hB]
  have HLG : Hid (elog z k = [] ++ [(1, 1)]) := by
    have : elog z k = [] ++ [(1, 1)] := by
      unfold elog blg; rw [if_pos (.inl hz), if_pos hz]; rfl
    exact this
  have H0 : Hid (Evl B w (.slice none 0 0) [] w) := h0
  clear hB h0
  have b1 : decide (z < 1) = true := decide_eq_true hz

  go_enter Tryd.func17, Tryd.ntmps17
  have HAP0 : Hid _ := fun ty => H0.out.one 1 1 (by simp) ty
  go_wp2_with (first | (go_at_call 36; refine (rif2 true _).mono ?_; rintro e wi ⟨rfl, hw⟩; obtain rfl := hw) | (at_builtin; refine wpList_app _ rfl (.tmp 6) (.tmp 10) 36 36 rfl _ _ rfl rfl HAP0.out ?_; intro v0 w0 h0; have G0 : Hid _ := h0; clear h0 HAP0))
  go_ret
  exact ⟨v0, rfl, by rw [HLG.out]; exact G0.out⟩
set_option maxRecDepth 100000 in
set_option maxHeartbeats 4000000 in
theorem enew2 (z : Int) (k : Nat) (hz : ¬ z < 1) (hz2 : 32 < z) (w : World) : Calls Tryd.prog 17 #[.int .i64 z, .int .i64 (k : Int)] w fun e w' => ∃ u, e = .returned u ∧ Evl w.heap.size w u (elog z k) w' := by
  obtain ⟨B, hB⟩ : ∃ B, w.heap.size = B := ⟨_, rfl⟩
  have h0 := evl_nil hB
  rw [hB]
  have HLG : Hid (elog z k = [] ++ [(1, 0)] ++ [(1, 1)]) := by
    have : elog z k = [] ++ [(1, 0)] ++ [(1, 1)] := by
      unfold elog blg; rw [if_pos (.inr (.inl hz2)), if_neg hz, if_pos hz2]; rfl
    exact this
  have H0 : Hid (Evl B w (.slice none 0 0) [] w) := h0
  clear hB h0
  have b1 : decide (z < 1) = false := decide_eq_false hz
  have b2 : decide (32 < z) = true := decide_eq_true hz2

  go_enter Tryd.func17, Tryd.ntmps17
  have HAP0 : Hid _ := fun ty => H0.out.one 1 0 (by simp) ty
  go_upto_region 3 with (first | (go_at_call 36; refine (rif2 false _).mono ?_; rintro e wi ⟨rfl, hw⟩; obtain rfl := hw) | (at_builtin; refine wpList_app _ rfl (.tmp 6) (.tmp 10) 36 36 rfl _ _ rfl rfl HAP0.out ?_; intro v0 w0 h0; have G0 : Hid _ := h0; clear h0 HAP0))
  clear H0
  have HAP1 : Hid _ := fun ty => G0.out.one 1 1 (by simp) ty
  go_wp2_with (first | (go_at_call 36; refine (rif2 true _).mono ?_; rintro e wi ⟨rfl, hw⟩; obtain rfl := hw) | (at_builtin; refine wpList_app _ rfl (.tmp 15) (.tmp 19) 36 36 rfl _ _ rfl rfl HAP1.out ?_; intro v1 w1 h1; have G1 : Hid _ := h1; clear h1 HAP1))
  go_ret
  exact ⟨v1, rfl, by rw [HLG.out]; exact G1.out⟩
set_option maxRecDepth 100000 in
set_option maxHeartbeats 4000000 in
theorem enew3 (z : Int) (k : Nat) (hz : ¬ z < 1) (hz2 : ¬ 32 < z) (hk : 32 < k) (w : World) : Calls Tryd.prog 17 #[.int .i64 z, .int .i64 (k : Int)] w fun e w' => ∃ u, e = .returned u ∧ Evl w.heap.size w u (elog z k) w' := by
  obtain ⟨B, hB⟩ : ∃ B, w.heap.size = B := ⟨_, rfl⟩
  have h0 := evl_nil hB
  rw [hB]
  have HLG : Hid (elog z k = [] ++ [(1, 0)] ++ [(1, 0)] ++ [(1, 1)]) := by
    have : elog z k = [] ++ [(1, 0)] ++ [(1, 0)] ++ [(1, 1)] := by
      unfold elog blg; rw [if_pos (.inr (.inr hk)), if_neg hz, if_neg hz2]; rfl
    exact this
  have H0 : Hid (Evl B w (.slice none 0 0) [] w) := h0
  clear hB h0
  have b1 : decide (z < 1) = false := decide_eq_false hz
  have b2 : decide (32 < z) = false := decide_eq_false hz2
  have hk1 : (32 : Int) < (k : Int) := by omega
  have b3 : decide ((32 : Int) < (k : Int)) = true := decide_eq_true hk1
  have b3n : decide (32 < k) = true := decide_eq_true hk

  go_enter Tryd.func17, Tryd.ntmps17
  have HAP0 : Hid _ := fun ty => H0.out.one 1 0 (by simp) ty
  go_upto_region 3 with (first | (go_at_call 36; refine (rif2 false _).mono ?_; rintro e wi ⟨rfl, hw⟩; obtain rfl := hw) | (at_builtin; refine wpList_app _ rfl (.tmp 6) (.tmp 10) 36 36 rfl _ _ rfl rfl HAP0.out ?_; intro v0 w0 h0; have G0 : Hid _ := h0; clear h0 HAP0))
  clear H0
  have HAP1 : Hid _ := fun ty => G0.out.one 1 0 (by simp) ty
  go_upto_region 6 with (first | (go_at_call 36; refine (rif2 false _).mono ?_; rintro e wi ⟨rfl, hw⟩; obtain rfl := hw) | (at_builtin; refine wpList_app _ rfl (.tmp 15) (.tmp 19) 36 36 rfl _ _ rfl rfl HAP1.out ?_; intro v1 w1 h1; have G1 : Hid _ := h1; clear h1 HAP1))
  clear G0
  have HAP2 : Hid _ := fun ty => G1.out.one 1 1 (by simp) ty
  go_wp2_with (first | (go_at_call 36; refine (rif2 true _).mono ?_; rintro e wi ⟨rfl, hw⟩; obtain rfl := hw) | (at_builtin; refine wpList_app _ rfl (.tmp 24) (.tmp 28) 36 36 rfl _ _ rfl rfl HAP2.out ?_; intro v2 w2 h2; have G2 : Hid _ := h2; clear h2 HAP2))
  go_ret
  exact ⟨v2, rfl, by rw [HLG.out]; exact G2.out⟩
set_option maxRecDepth 100000 in
set_option maxHeartbeats 4000000 in
theorem enew4 (z : Int) (k : Nat) (hz : ¬ z < 1) (hz2 : ¬ 32 < z) (hk : ¬ 32 < k) (hk0 : ¬ 0 < k) (w : World) : Calls Tryd.prog 17 #[.int .i64 z, .int .i64 (k : Int)] w fun e w' => ∃ u, e = .returned u ∧ Evl w.heap.size w u (elog z k) w' := by
  obtain ⟨B, hB⟩ : ∃ B, w.heap.size = B := ⟨_, rfl⟩
  have h0 := evl_nil hB
  rw [hB]
  have HLG : Hid (elog z k = [] ++ [(1, 0)] ++ [(1, 0)] ++ [(1, 0)] ++ [(1, 0)]) := by
    have : elog z k = [] ++ [(1, 0)] ++ [(1, 0)] ++ [(1, 0)] ++ [(1, 0)] := by
      unfold elog; rw [if_neg (by omega), if_pos (by omega)]; rfl
    exact this
  have H0 : Hid (Evl B w (.slice none 0 0) [] w) := h0
  clear hB h0
  have b1 : decide (z < 1) = false := decide_eq_false hz
  have b2 : decide (32 < z) = false := decide_eq_false hz2
  have hk1 : ¬ (32 : Int) < (k : Int) := by omega
  have b3 : decide ((32 : Int) < (k : Int)) = false := decide_eq_false hk1
  have b3n : decide (32 < k) = false := decide_eq_false hk
  have hk2 : ¬ (0 : Int) < (k : Int) := by omega
  have b4 : decide ((0 : Int) < (k : Int)) = false := decide_eq_false hk2
  have b4n : decide (0 < k) = false := decide_eq_false hk0

  go_enter Tryd.func17, Tryd.ntmps17
  have HAP0 : Hid _ := fun ty => H0.out.one 1 0 (by simp) ty
  go_upto_region 3 with (first | (go_at_call 36; refine (rif2 false _).mono ?_; rintro e wi ⟨rfl, hw⟩; obtain rfl := hw) | (at_builtin; refine wpList_app _ rfl (.tmp 6) (.tmp 10) 36 36 rfl _ _ rfl rfl HAP0.out ?_; intro v0 w0 h0; have G0 : Hid _ := h0; clear h0 HAP0))
  clear H0
  have HAP1 : Hid _ := fun ty => G0.out.one 1 0 (by simp) ty
  go_upto_region 6 with (first | (go_at_call 36; refine (rif2 false _).mono ?_; rintro e wi ⟨rfl, hw⟩; obtain rfl := hw) | (at_builtin; refine wpList_app _ rfl (.tmp 15) (.tmp 19) 36 36 rfl _ _ rfl rfl HAP1.out ?_; intro v1 w1 h1; have G1 : Hid _ := h1; clear h1 HAP1))
  clear G0
  have HAP2 : Hid _ := fun ty => G1.out.one 1 0 (by simp) ty
  go_upto_region 9 with (first | (go_at_call 36; refine (rif2 false _).mono ?_; rintro e wi ⟨rfl, hw⟩; obtain rfl := hw) | (at_builtin; refine wpList_app _ rfl (.tmp 24) (.tmp 28) 36 36 rfl _ _ rfl rfl HAP2.out ?_; intro v2 w2 h2; have G2 : Hid _ := h2; clear h2 HAP2))
  clear G1
  have HAP3 : Hid _ := fun ty => G2.out.one 1 0 (by simp) ty
  go_wp2_with (first | (go_at_call 36; refine (rif2 false _).mono ?_; rintro e wi ⟨rfl, hw⟩; obtain rfl := hw) | (at_builtin; refine wpList_app _ rfl (.tmp 33) (.tmp 37) 36 36 rfl _ _ rfl rfl HAP3.out ?_; intro v3 w3 h3; have G3 : Hid _ := h3; clear h3 HAP3))
  go_ret
  exact ⟨v3, rfl, by rw [HLG.out]; exact G3.out⟩
set_option maxRecDepth 100000 in
set_option maxHeartbeats 4000000 in
theorem enew5 (z : Int) (k : Nat) (hz : ¬ z < 1) (hz2 : ¬ 32 < z) (hk : ¬ 32 < k) (hk0 : 0 < k) (w : World) : Calls Tryd.prog 17 #[.int .i64 z, .int .i64 (k : Int)] w fun e w' => ∃ u, e = .returned u ∧ Evl w.heap.size w u (elog z k) w' := by
  obtain ⟨B, hB⟩ : ∃ B, w.heap.size = B := ⟨_, rfl⟩
  have h0 := evl_nil hB
  rw [hB]
  have HLG : Hid (elog z k = [] ++ [(1, 0)] ++ [(1, 0)] ++ [(1, 0)] ++ [(1, 1)]) := by
    have : elog z k = [] ++ [(1, 0)] ++ [(1, 0)] ++ [(1, 0)] ++ [(1, 1)] := by
      unfold elog; rw [if_neg (by omega), if_neg (by omega)]; rfl
    exact this
  have H0 : Hid (Evl B w (.slice none 0 0) [] w) := h0
  clear hB h0
  have b1 : decide (z < 1) = false := decide_eq_false hz
  have b2 : decide (32 < z) = false := decide_eq_false hz2
  have hk1 : ¬ (32 : Int) < (k : Int) := by omega
  have b3 : decide ((32 : Int) < (k : Int)) = false := decide_eq_false hk1
  have b3n : decide (32 < k) = false := decide_eq_false hk
  have hk2 : (0 : Int) < (k : Int) := by omega
  have b4 : decide ((0 : Int) < (k : Int)) = true := decide_eq_true hk2
  have b4n : decide (0 < k) = true := decide_eq_true hk0

  go_enter Tryd.func17, Tryd.ntmps17
  have HAP0 : Hid _ := fun ty => H0.out.one 1 0 (by simp) ty
  go_upto_region 3 with (first | (go_at_call 36; refine (rif2 false _).mono ?_; rintro e wi ⟨rfl, hw⟩; obtain rfl := hw) | (at_builtin; refine wpList_app _ rfl (.tmp 6) (.tmp 10) 36 36 rfl _ _ rfl rfl HAP0.out ?_; intro v0 w0 h0; have G0 : Hid _ := h0; clear h0 HAP0))
  clear H0
  have HAP1 : Hid _ := fun ty => G0.out.one 1 0 (by simp) ty
  go_upto_region 6 with (first | (go_at_call 36; refine (rif2 false _).mono ?_; rintro e wi ⟨rfl, hw⟩; obtain rfl := hw) | (at_builtin; refine wpList_app _ rfl (.tmp 15) (.tmp 19) 36 36 rfl _ _ rfl rfl HAP1.out ?_; intro v1 w1 h1; have G1 : Hid _ := h1; clear h1 HAP1))
  clear G0
  have HAP2 : Hid _ := fun ty => G1.out.one 1 0 (by simp) ty
  go_upto_region 9 with (first | (go_at_call 36; refine (rif2 false _).mono ?_; rintro e wi ⟨rfl, hw⟩; obtain rfl := hw) | (at_builtin; refine wpList_app _ rfl (.tmp 24) (.tmp 28) 36 36 rfl _ _ rfl rfl HAP2.out ?_; intro v2 w2 h2; have G2 : Hid _ := h2; clear h2 HAP2))
  clear G1
  have HAP3 : Hid _ := fun ty => G2.out.one 1 1 (by simp) ty
  go_wp2_with (first | (go_at_call 36; refine (rif2 true _).mono ?_; rintro e wi ⟨rfl, hw⟩; obtain rfl := hw) | (at_builtin; refine wpList_app _ rfl (.tmp 33) (.tmp 37) 36 36 rfl _ _ rfl rfl HAP3.out ?_; intro v3 w3 h3; have G3 : Hid _ := h3; clear h3 HAP3))
  go_ret
  exact ⟨v3, rfl, by rw [HLG.out]; exact G3.out⟩
theorem enew_any (z : Int) (k : Nat) (w : World) : Calls Tryd.prog 17 #[.int .i64 z, .int .i64 (k : Int)] w fun e w' => ∃ u, e = .returned u ∧ Evl w.heap.size w u (elog z k) w' := by
  by_cases h1 : z < 1
  · exact enew1 z k h1 w
  · by_cases h2 : 32 < z
    · exact enew2 z k h1 h2 w
    · by_cases h3 : 32 < k
      · exact enew3 z k h1 h2 h3 w
      · by_cases h4 : 0 < k
        · exact enew5 z k h1 h2 h3 h4 w
        · exact enew4 z k h1 h2 h3 h4 w
end Go.Proofs.YtfkbgodfcnmepaaDoor
