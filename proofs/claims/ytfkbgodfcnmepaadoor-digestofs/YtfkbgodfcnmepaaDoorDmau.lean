import Derived.Test.YtfkbgodfcnmepaaDoorDmao
import Derived.Test.YtfkbgodfcnmepaaDoorDmak
import Derived.Test.YtfkbgodfcnmepaaDoorDmar
namespace Go.Proofs.YtfkbgodfcnmepaaDoor
set_option linter.unusedSimpArgs false
set_option linter.unusedVariables false
open Go.ChangeShapes Go.WideShapes Go.ChangeAt Go.RowKit Go.Pin Go.Str Go.Dig
theorem hl_self {h : Nat} (hh : h ≤ 64) : hl h = h := by unfold hl nbl; omega
theorem hl_full {n : Nat} (hn : 0 < n) : hl (64 + n) = hl n := by unfold hl nbl; omega
theorem wrapB {x : Int} (h : -1000000 ≤ x ∧ x ≤ 1000000) : wrap64 x = x ∧ IntKind.i64.wrap x = x := ⟨IntWalk.wrap64_in _ ⟨by omega, by omega⟩, IntWalk.i64_in _ ⟨by omega, by omega⟩⟩
theorem two_len (l : List (Int × Int)) (x y : Int × Int) : (l ++ [x, y]).length = l.length + 2 := by simp
set_option maxRecDepth 100000 in
set_option maxHeartbeats 16000000 in
theorem ewrite_any (h0 n0 : Nat) (hh0 : h0 ≤ 64) (hn0 : n0 ≤ 200000) (w : World) : Calls Tryd.prog 24 #[.int .i64 (h0 : Int), .int .i64 (n0 : Int)] w fun e w' => ∃ u, e = .returned (.tuple #[u, .int .i64 ((hl (h0 + n0) : Nat) : Int)]) ∧ Evl w.heap.size w u (wl h0 n0) w' := by
  obtain ⟨B, hB⟩ : ∃ B, w.heap.size = B := ⟨_, rfl⟩
  have H0 : Hid (Evl B w (.slice none 0 0) [] w) := evl_nil hB
  rw [hB]
  have HWL : Hid ((wl h0 n0).length ≤ 300000) := by
    have := wl_short h0 n0 hh0
    have : (wl h0 n0).length ≤ 300000 := by omega
    exact this
  obtain ⟨WL, hWL⟩ : ∃ L, wl h0 n0 = L := ⟨_, rfl⟩
  obtain ⟨HE, hHE⟩ : ∃ L, hl (h0 + n0) = L := ⟨_, rfl⟩
  rw [hWL] at HWL
  rw [hWL, hHE]
  have HI : Hid (wl h0 n0 = WL ∧ hl (h0 + n0) = HE ∧ h0 ≤ 64 ∧ n0 ≤ 200000) := ⟨hWL, hHE, hh0, hn0⟩
  clear hB hWL hHE hh0 hn0
  go_enter Tryd.func24, Tryd.ntmps24
  go_wp2
  go_loopw [0, 1, 6, 7] (fun v0 v1 v6 _ w' => ∃ (h n : Nat) (l : List (Int × Int)), v0 = .int .i64 (h : Int) ∧ v1 = .int .i64 (n : Int) ∧ (h ≤ 64 ∧ n ≤ 200000 ∧ l ++ wl h n = WL ∧ hl (h + n) = HE) ∧ Evl B w v6 l w') (fun _ v1 _ _ _ => (intOf v1).toNat)
  case atStart => exact ⟨h0, n0, [], rfl, rfl, ⟨HI.out.2.2.1, HI.out.2.2.2, by rw [List.nil_append]; exact HI.out.1, HI.out.2.1⟩, H0.out⟩
  case round =>
    clear H0 HI
    obtain ⟨h, n, l, rfl, rfl, hin, hev⟩ := hrel
    have HIN : Hid (h ≤ 64 ∧ n ≤ 200000 ∧ l ++ wl h n = WL ∧ hl (h + n) = HE) := hin
    have HEV : Hid (Evl B w u6 l wr) := hev
    have HLL : Hid (l.length ≤ 300000) := by
      have h1 := HWL.out
      rw [← hin.2.2.1, List.length_append] at h1
      have : l.length ≤ 300000 := by omega
      exact this
    by_cases hn : 0 < n
    · have b1 : (0 : Int) < (n : Int) := by omega
      have b1' : decide ((0 : Int) < (n : Int)) = true := decide_eq_true b1
      obtain ⟨hh, hn2, _, _⟩ := id hin
      clear hin hev
      by_cases h64 : h = 64
      · subst h64
        have HAP0 : Hid _ := fun ty => HEV.out.two 1 1 1 1 (by have := HLL.out; omega) ty
        go_upto_region 5 with (first | (go_at_call 36; refine (rif2 true _).mono ?_; rintro e wi ⟨rfl, hw⟩; obtain rfl := hw) | (at_builtin; refine wpList_app _ rfl (.tmp 10) (.tmp 15) 36 36 rfl _ _ rfl rfl HAP0.out ?_; intro v0 w0 g0; have G0 : Hid _ := g0; clear g0 HAP0))
        have HAP1 : Hid _ := fun ty => G0.out.one 3 31 (by rw [two_len]; have := HLL.out; omega) ty
        go_upto_region 7 with (first | (go_at_call 38; refine (rop2 31 _).mono ?_; rintro e wi ⟨rfl, hw⟩; obtain rfl := hw) | (at_builtin; refine wpList_app _ rfl (.tmp 19) (.tmp 21) 36 36 rfl _ _ rfl rfl HAP1.out ?_; intro v1 w1 g1; have G1 : Hid _ := g1; clear g1 HAP1))
        clear HEV G0
        by_cases hk : n < 64
        · have b3 : (n : Int) < 64 := by omega
          have HAP2 : Hid _ := fun ty => G1.out.two 2 0 2 (n : Int) (by simp only [List.length_append, List.length_cons, List.length_nil]; have := HLL.out; omega) ty
          have HST : Hid (n ≤ 64 ∧ n - n ≤ 200000 ∧ l ++ [(1, 1), (1, 1)] ++ [(3, 31)] ++ [(2, 0), (2, (n : Int))] ++ wl (n) (n - n) = WL ∧ hl (n + (n - n)) = HE ∧ n - n < n) := by
            have h1 := HIN.out
            have h2 := wl_full hn (k := n) (by omega)
            have : n ≤ 64 ∧ n - n ≤ 200000 ∧ l ++ [(1, 1), (1, 1)] ++ [(3, 31)] ++ [(2, 0), (2, (n : Int))] ++ wl (n) (n - n) = WL ∧ hl (n + (n - n)) = HE ∧ n - n < n := ⟨by omega, by omega, by rw [← h1.2.2.1, h2]; simp, by rw [← h1.2.2.2]; rw [show n + (n - n) = n by omega, hl_full hn], by omega⟩
            exact this
          have HW : Hid (wrap64 (0 + (n : Int)) = ((n : Nat) : Int) ∧ wrap64 ((n : Int) - (n : Int)) = ((n - n : Nat) : Int)) := by
            have h1 := HIN.out
            have : wrap64 (0 + (n : Int)) = ((n : Nat) : Int) ∧ wrap64 ((n : Int) - (n : Int)) = ((n - n : Nat) : Int) := ⟨by rw [(wrapB (by omega)).1]; omega, by rw [(wrapB (by omega)).1]; omega⟩
            exact this
          clear hk
          go_wp2_with (first | (go_at_call 37; first | (refine (rat2 0 _).mono ?_; rintro e wi ⟨rfl, hw⟩; obtain rfl := hw) | (refine (rat2 (n : Int) _).mono ?_; rintro e wi ⟨rfl, hw⟩; obtain rfl := hw)) | (at_builtin; refine wpList_app _ rfl (.tmp 29) (.tmp 34) 36 36 rfl _ _ rfl rfl HAP2.out ?_; intro v2 w2 g2; have G2 : Hid _ := g2; clear g2 HAP2))
          go_roundw
          case rel => exact ⟨n, n - n, _, by first | rfl | (simp only [HW.out.1]) | exact congrArg (Value.int .i64) HW.out.1 | exact congrArg (Value.int .i64) (by omega), by first | rfl | (simp only [HW.out.2]) | exact congrArg (Value.int .i64) HW.out.2 | exact congrArg (Value.int .i64) (by omega), ⟨HST.out.1, HST.out.2.1, HST.out.2.2.1, HST.out.2.2.2.1⟩, G2.out⟩
          case measure => first | (rw [HW.out.2]; exact HST.out.2.2.2.2) | (have := HST.out.2.2.2.2; simp only [intOf]; omega)
        · have b3 : ¬ (n : Int) < 64 := by omega
          have HAP2 : Hid _ := fun ty => G1.out.two 2 0 2 64 (by simp only [List.length_append, List.length_cons, List.length_nil]; have := HLL.out; omega) ty
          have HST : Hid (64 ≤ 64 ∧ n - 64 ≤ 200000 ∧ l ++ [(1, 1), (1, 1)] ++ [(3, 31)] ++ [(2, 0), (2, 64)] ++ wl (64) (n - 64) = WL ∧ hl (64 + (n - 64)) = HE ∧ n - 64 < n) := by
            have h1 := HIN.out
            have h2 := wl_full hn (k := 64) (by omega)
            have : 64 ≤ 64 ∧ n - 64 ≤ 200000 ∧ l ++ [(1, 1), (1, 1)] ++ [(3, 31)] ++ [(2, 0), (2, 64)] ++ wl (64) (n - 64) = WL ∧ hl (64 + (n - 64)) = HE ∧ n - 64 < n := ⟨by omega, by omega, by rw [← h1.2.2.1, h2]; simp, by rw [← h1.2.2.2]; rw [show 64 + (n - 64) = n by omega, hl_full hn], by omega⟩
            exact this
          have HW : Hid (wrap64 (0 + 64) = ((64 : Nat) : Int) ∧ wrap64 ((n : Int) - 64) = ((n - 64 : Nat) : Int)) := by
            have h1 := HIN.out
            have : wrap64 (0 + 64) = ((64 : Nat) : Int) ∧ wrap64 ((n : Int) - 64) = ((n - 64 : Nat) : Int) := ⟨by rw [(wrapB (by omega)).1]; omega, by rw [(wrapB (by omega)).1]; omega⟩
            exact this
          clear hk
          go_wp2_with (first | (go_at_call 37; first | (refine (rat2 0 _).mono ?_; rintro e wi ⟨rfl, hw⟩; obtain rfl := hw) | (refine (rat2 64 _).mono ?_; rintro e wi ⟨rfl, hw⟩; obtain rfl := hw)) | (at_builtin; refine wpList_app _ rfl (.tmp 29) (.tmp 34) 36 36 rfl _ _ rfl rfl HAP2.out ?_; intro v2 w2 g2; have G2 : Hid _ := g2; clear g2 HAP2))
          go_roundw
          case rel => exact ⟨64, n - 64, _, by first | rfl | (simp only [HW.out.1]) | exact congrArg (Value.int .i64) HW.out.1 | exact congrArg (Value.int .i64) (by omega), by first | rfl | (simp only [HW.out.2]) | exact congrArg (Value.int .i64) HW.out.2 | exact congrArg (Value.int .i64) (by omega), ⟨HST.out.1, HST.out.2.1, HST.out.2.2.1, HST.out.2.2.2.1⟩, G2.out⟩
          case measure => first | (rw [HW.out.2]; exact HST.out.2.2.2.2) | (have := HST.out.2.2.2.2; simp only [intOf]; omega)
      · have hlt : h < 64 := by omega
        have b2 : ((h : Int) == 64) = false := by simp; omega
        have b2' : ¬ (h : Int) = 64 := by omega
        have HAP0 : Hid _ := fun ty => HEV.out.two 1 1 1 0 (by have := HLL.out; omega) ty
        go_upto_region 7 with (first | (go_at_call 36; first | (refine (rif2 true _).mono ?_; rintro e wi ⟨rfl, hw⟩; obtain rfl := hw) | (refine (rif2 false _).mono ?_; rintro e wi ⟨rfl, hw⟩; obtain rfl := hw)) | (at_builtin; refine wpList_app _ rfl (.tmp 10) (.tmp 15) 36 36 rfl _ _ rfl rfl HAP0.out ?_; intro v0 w0 g0; have G0 : Hid _ := g0; clear g0 HAP0))
        clear HEV
        obtain ⟨r, hr⟩ : ∃ r, 64 - h = r := ⟨_, rfl⟩
        have hwr := wrapB (x := 64 - (h : Int)) (by omega)
        have e64 : 64 - (h : Int) = (r : Int) := by omega
        rw [e64] at hwr
        obtain ⟨hw1, hw1'⟩ := hwr
        by_cases hk : n < r
        · have b3 : (n : Int) < (r : Int) := by omega
          have HAP2 : Hid _ := fun ty => G0.out.two 2 (h : Int) 2 (n : Int) (by simp only [List.length_append, List.length_cons, List.length_nil]; have := HLL.out; omega) ty
          have HST : Hid (h + n ≤ 64 ∧ n - n ≤ 200000 ∧ l ++ [(1, 1), (1, 0)] ++ [(2, (h : Int)), (2, (n : Int))] ++ wl (h + n) (n - n) = WL ∧ hl (h + n + (n - n)) = HE ∧ n - n < n) := by
            have h1 := HIN.out
            have h2 := wl_room (by omega) hn (k := n) (by omega)
            have : h + n ≤ 64 ∧ n - n ≤ 200000 ∧ l ++ [(1, 1), (1, 0)] ++ [(2, (h : Int)), (2, (n : Int))] ++ wl (h + n) (n - n) = WL ∧ hl (h + n + (n - n)) = HE ∧ n - n < n := ⟨by omega, by omega, by rw [← h1.2.2.1, h2]; simp, by rw [← h1.2.2.2]; rw [show h + n + (n - n) = h + n by omega], by omega⟩
            exact this
          have HW : Hid (wrap64 ((h : Int) + (n : Int)) = ((h + n : Nat) : Int) ∧ wrap64 ((n : Int) - (n : Int)) = ((n - n : Nat) : Int)) := by
            have h1 := HIN.out
            have : wrap64 ((h : Int) + (n : Int)) = ((h + n : Nat) : Int) ∧ wrap64 ((n : Int) - (n : Int)) = ((n - n : Nat) : Int) := ⟨by rw [(wrapB (by omega)).1]; omega, by rw [(wrapB (by omega)).1]; omega⟩
            exact this
          clear hk hlt
          go_wp2_with (first | (go_at_call 37; first | (refine (rat2 (h : Int) _).mono ?_; rintro e wi ⟨rfl, hw⟩; obtain rfl := hw) | (refine (rat2 (n : Int) _).mono ?_; rintro e wi ⟨rfl, hw⟩; obtain rfl := hw)) | (at_builtin; refine wpList_app _ rfl (.tmp 29) (.tmp 34) 36 36 rfl _ _ rfl rfl HAP2.out ?_; intro v2 w2 g2; have G2 : Hid _ := g2; clear g2 HAP2))
          go_roundw
          case rel => exact ⟨h + n, n - n, _, by first | rfl | (simp only [HW.out.1]) | exact congrArg (Value.int .i64) HW.out.1 | exact congrArg (Value.int .i64) (by omega), by first | rfl | (simp only [HW.out.2]) | exact congrArg (Value.int .i64) HW.out.2 | exact congrArg (Value.int .i64) (by omega), ⟨HST.out.1, HST.out.2.1, HST.out.2.2.1, HST.out.2.2.2.1⟩, G2.out⟩
          case measure => first | (rw [HW.out.2]; exact HST.out.2.2.2.2) | (have := HST.out.2.2.2.2; simp only [intOf]; omega)
        · have b3 : ¬ (n : Int) < (r : Int) := by omega
          have HAP2 : Hid _ := fun ty => G0.out.two 2 (h : Int) 2 (r : Int) (by simp only [List.length_append, List.length_cons, List.length_nil]; have := HLL.out; omega) ty
          have HST : Hid (h + r ≤ 64 ∧ n - r ≤ 200000 ∧ l ++ [(1, 1), (1, 0)] ++ [(2, (h : Int)), (2, (r : Int))] ++ wl (h + r) (n - r) = WL ∧ hl (h + r + (n - r)) = HE ∧ n - r < n) := by
            have h1 := HIN.out
            have h2 := wl_room (by omega) hn (k := r) (by omega)
            have : h + r ≤ 64 ∧ n - r ≤ 200000 ∧ l ++ [(1, 1), (1, 0)] ++ [(2, (h : Int)), (2, (r : Int))] ++ wl (h + r) (n - r) = WL ∧ hl (h + r + (n - r)) = HE ∧ n - r < n := ⟨by omega, by omega, by rw [← h1.2.2.1, h2]; simp, by rw [← h1.2.2.2]; rw [show h + r + (n - r) = h + n by omega], by omega⟩
            exact this
          have HW : Hid (wrap64 ((h : Int) + (r : Int)) = ((h + r : Nat) : Int) ∧ wrap64 ((n : Int) - (r : Int)) = ((n - r : Nat) : Int)) := by
            have h1 := HIN.out
            have : wrap64 ((h : Int) + (r : Int)) = ((h + r : Nat) : Int) ∧ wrap64 ((n : Int) - (r : Int)) = ((n - r : Nat) : Int) := ⟨by rw [(wrapB (by omega)).1]; omega, by rw [(wrapB (by omega)).1]; omega⟩
            exact this
          clear hk hlt
          go_wp2_with (first | (go_at_call 37; first | (refine (rat2 (h : Int) _).mono ?_; rintro e wi ⟨rfl, hw⟩; obtain rfl := hw) | (refine (rat2 (r : Int) _).mono ?_; rintro e wi ⟨rfl, hw⟩; obtain rfl := hw)) | (at_builtin; refine wpList_app _ rfl (.tmp 29) (.tmp 34) 36 36 rfl _ _ rfl rfl HAP2.out ?_; intro v2 w2 g2; have G2 : Hid _ := g2; clear g2 HAP2))
          go_roundw
          case rel => exact ⟨h + r, n - r, _, by first | rfl | (simp only [HW.out.1]) | exact congrArg (Value.int .i64) HW.out.1 | exact congrArg (Value.int .i64) (by omega), by first | rfl | (simp only [HW.out.2]) | exact congrArg (Value.int .i64) HW.out.2 | exact congrArg (Value.int .i64) (by omega), ⟨HST.out.1, HST.out.2.1, HST.out.2.2.1, HST.out.2.2.2.1⟩, G2.out⟩
          case measure => first | (rw [HW.out.2]; exact HST.out.2.2.2.2) | (have := HST.out.2.2.2.2; simp only [intOf]; omega)
    · have b1 : ¬ (0 : Int) < (n : Int) := by omega
      have en : n = 0 := by omega
      subst en
      have HAP0 : Hid _ := fun ty => HEV.out.one 1 0 (by have := HLL.out; omega) ty
      have HF : Hid (l ++ [(1, 0)] = WL ∧ h = HE) := by
        have : l ++ [(1, 0)] = WL ∧ h = HE := ⟨by rw [← hin.2.2.1, wl_zero], by rw [← hin.2.2.2, Nat.add_zero, hl_self hin.1]⟩
        exact this
      clear hin hev hn
      go_wp2_with (first | (go_at_call 36; refine (rif2 false _).mono ?_; rintro e wi ⟨rfl, hw⟩; obtain rfl := hw) | (at_builtin; refine wpList_app _ rfl (.tmp 42) (.tmp 44) 36 36 rfl _ _ rfl rfl HAP0.out ?_; intro v0 w0 g0; have G0 : Hid _ := g0; clear g0 HAP0))
      go_ret2
      exact ⟨v0, by rw [HF.out.2]; rfl, by rw [← HF.out.1]; exact G0.out⟩
end Go.Proofs.YtfkbgodfcnmepaaDoor
namespace Go.Proofs.YtfkbgodfcnmepaaDoor
set_option linter.unusedSimpArgs false
set_option linter.unusedVariables false
open Go.ChangeShapes Go.WideShapes Go.ChangeAt Go.RowKit Go.Pin Go.Str Go.Dig
/-- boxes of which no two are one -/
def EN (B : Nat) (w : World) (rv : Value) (l : List (Int × Int)) (bs : List (Nat × Obj)) (W : World) : Prop := Ev B w rv l bs W ∧ (bs.map Prod.fst).Nodup
section
variable {B : Nat} {w : World} {rv rv' : Value} {l l' : List (Int × Int)} {A C lb lb' bs : List (Nat × Obj)} {W W' : World} {g : Nat} {x x' : Obj}
theorem EN.below (h : EN B w rv l bs W) (hb : Below W.heap.size W W') : EN B w rv l bs W' := ⟨h.1.below hb, h.2⟩
theorem EN.at (h : EN B w rv l (A ++ (g, x) :: C) W) : Ev B w rv l ((g, x) :: (A ++ C)) W ∧ ∀ p ∈ A ++ C, p.1 ≠ g := by
  refine ⟨h.1.sub (fun p hp => List.perm_middle.mem_iff.2 hp), fun p hp e => ?_⟩
  have h2 := (List.Perm.nodup_iff (List.Perm.map Prod.fst (List.perm_middle (a := (g, x)) (l₁ := A) (l₂ := C)))).1 h.2
  rw [List.map_cons] at h2
  exact (List.nodup_cons.1 h2).1 (List.mem_map.2 ⟨p, hp, e⟩)
theorem EN.back (h : EN B w rv l (A ++ (g, x) :: C) W) (h' : Ev B w rv' l' ((g, x') :: (A ++ C)) W') : EN B w rv' l' (A ++ (g, x') :: C) W' := by
  refine ⟨h'.sub (fun p hp => List.perm_middle.mem_iff.1 hp), ?_⟩
  have := h.2
  rw [List.map_append, List.map_cons] at this ⊢
  exact this
theorem EN.list (h : EN B w rv l (A ++ (lb ++ C)) W) : Ev B w rv l (lb ++ (A ++ C)) W ∧ ∀ p ∈ lb, ∀ q ∈ A ++ C, q.1 ≠ p.1 := by
  have hp : (A ++ (lb ++ C)).Perm (lb ++ (A ++ C)) := by
    rw [← List.append_assoc, ← List.append_assoc]
    exact List.Perm.append_right C List.perm_append_comm
  refine ⟨h.1.sub (fun p hm => hp.mem_iff.2 hm), fun p hm q hq e => ?_⟩
  have h2 := (List.Perm.nodup_iff (hp.map Prod.fst)).1 h.2
  rw [List.map_append] at h2
  exact (List.nodup_append.1 h2).2.2 p.1 (List.mem_map.2 ⟨p, hm, rfl⟩) q.1 (List.mem_map.2 ⟨q, hq, rfl⟩) e.symm
theorem Lst.nd {T : TypeId} {sz : Nat} {v : Value} {n : Nat} {xs : List Value} (h : Lst T sz v n xs lb) : (lb.map Prod.fst).Nodup := by
  rcases h.2 with ⟨_, _, e⟩ | ⟨g, cap, cur, _, e, _⟩
  · rw [e]; exact List.nodup_nil
  · rw [e]; simp
theorem EN.listBack (h : EN B w rv l (A ++ (lb ++ C)) W) (hn : (lb'.map Prod.fst).Nodup) (h' : Ev B w rv' l' (lb' ++ (A ++ C)) W') (hd : ∀ p ∈ lb', ∀ q ∈ A ++ C, q.1 ≠ p.1) : EN B w rv' l' (A ++ (lb' ++ C)) W' := by
  have hp : ∀ lb : List (Nat × Obj), (A ++ (lb ++ C)).Perm (lb ++ (A ++ C)) := fun lb => by
    rw [← List.append_assoc, ← List.append_assoc]
    exact List.Perm.append_right C List.perm_append_comm
  refine ⟨h'.sub (fun p hm => (hp lb').mem_iff.1 hm), (List.Perm.nodup_iff ((hp lb').map Prod.fst)).2 ?_⟩
  have h2 := (List.Perm.nodup_iff ((hp lb).map Prod.fst)).1 h.2
  rw [List.map_append] at h2 ⊢
  refine List.nodup_append.2 ⟨hn, (List.nodup_append.1 h2).2.1, fun a ha b hb e => ?_⟩
  obtain ⟨p, hp, rfl⟩ := List.mem_map.1 ha
  obtain ⟨q, hq, rfl⟩ := List.mem_map.1 hb
  exact hd p hp q hq e.symm
/-- another box in a box's place -/
theorem EN.swapBox (h : EN B w rv l (A ++ (g, x) :: C) W) (hb : Below W.heap.size W W') {p : Nat} {y : Obj} (hp : W.heap.size ≤ p) (hy : W'.heap[p]? = some y) : EN B w rv l (A ++ (p, y) :: C) W' := by
  have hf := (h.1.fresh hb hp hy)
  refine ⟨hf.sub (fun r hr => ?_), ?_⟩
  · rcases List.mem_append.1 hr with hr | hr
    · exact List.mem_cons_of_mem _ (List.mem_append_left _ hr)
    · rcases List.mem_cons.1 hr with rfl | hr
      · exact List.mem_cons_self ..
      · exact List.mem_cons_of_mem _ (List.mem_append_right _ (List.mem_cons_of_mem _ hr))
  · have h2 := (List.Perm.nodup_iff (List.Perm.map Prod.fst (List.perm_middle (a := (g, x)) (l₁ := A) (l₂ := C)))).1 h.2
    refine (List.Perm.nodup_iff (List.Perm.map Prod.fst (List.perm_middle (a := (p, y)) (l₁ := A) (l₂ := C)))).2 ?_
    rw [List.map_cons] at h2 ⊢
    refine List.nodup_cons.2 ⟨fun hm => ?_, (List.nodup_cons.1 h2).2⟩
    obtain ⟨r, hr, e⟩ := List.mem_map.1 hm
    have : r ∈ A ++ (g, x) :: C := List.perm_middle.mem_iff.2 (List.mem_cons_of_mem _ hr)
    have := heap_lt (h.1.at' r this)
    omega
end
/-- a Hash with a Recorder -/
abbrev ho (R s : Nat) (key M b : List Int) : Obj := hst (.pointer (some ⟨R, 0, none⟩)) s (h0 s key.length) (fil key ++ M) b
/-- what a script on a Hash has: the Hash, a desk, the list of bytes, the list of events -/
def PS (q : Nat) (W : World) (R g p s : Nat) (key M A dk : List Int) (va ve : Value) (L E : List (Int × Int)) (ex : List (Nat × Obj)) (w' : World) : Prop :=
  ∃ b, HSb (fil key ++ M) b ∧ ∃ la le, Lst 5 1 va A.length (A.map (Value.int .u8)) la ∧ Lst 82 2 ve E.length (evC E) le ∧ EN q W (.pointer (some ⟨R, 0, none⟩)) L (la ++ (le ++ ((g, ho R s key M b) :: (p, .cells (VI .u8 dk) 5) :: ex))) w'
section
variable {q : Nat} {W : World} {R g p s : Nat} {key M A dk : List Int} {va ve : Value} {L E : List (Int × Int)} {ex : List (Nat × Obj)} {w' : World}
theorem PS.old (h : PS q W R g p s key M A dk va ve L E ex w') : Below q W w' := by obtain ⟨b, _, la, le, _, _, h⟩ := h; exact h.1.old
theorem PS.le (h : PS q W R g p s key M A dk va ve L E ex w') : q ≤ w'.heap.size := by obtain ⟨b, _, la, le, _, _, h⟩ := h; exact h.1.le
theorem PS.below (h : PS q W R g p s key M A dk va ve L E ex w') {w2 : World} (hb : Below w'.heap.size w' w2) : PS q W R g p s key M A dk va ve L E ex w2 := by
  obtain ⟨b, hb0, la, le, h1, h2, h3⟩ := h
  exact ⟨b, hb0, la, le, h1, h2, h3.below hb⟩
theorem PS.desk (h : PS q W R g p s key M A dk va ve L E ex w') : w'.heap[p]? = some (.cells (VI .u8 dk) 5) := by
  obtain ⟨b, hb0, la, le, h1, h2, h3⟩ := h
  exact h3.1.row (List.mem_append_right _ (List.mem_append_right _ mem1))
theorem PS.slA (h : PS q W R g p s key M A dk va ve L E ex w') : ∃ a c, va = .slice a A.length c := by
  obtain ⟨b, hb0, la, le, h1, h2, h3⟩ := h
  exact h1.slice'
theorem PS.rec (h : PS q W R g p s key M A dk va ve L E ex w') : Ev q W (.pointer (some ⟨R, 0, none⟩)) L [] w' := by
  obtain ⟨b, hb0, la, le, h1, h2, h3⟩ := h
  exact h3.1.sub (fun p hp => nomatch hp)
theorem PS.ownE (h : PS q W R g p s key M A dk va ve L E ex w') : w'.ownsRow q 82 2 ve E.length (evC E) := by
  obtain ⟨b, hb0, la, le, h1, h2, h3⟩ := h
  exact h2.own (fun p hp => h3.1.ge p (List.mem_append_right _ (List.mem_append_left _ hp))) (fun p hp => h3.1.at' p (List.mem_append_right _ (List.mem_append_left _ hp)))
theorem PS.sum (h : PS q W R g p s key M A dk va ve L E ex w') (hB : Beg W) (h2q : 2 ≤ q) (hs : s ≤ 32) (hk : key.length ≤ 32) (hM : M.length ≤ 200000) (hLl : L.length ≤ 800000) :
    Calls Tryd.prog 22 #[.pointer (some ⟨g, 0, none⟩)] w' fun e w2 => ∃ u, e = .returned u ∧ PS q W R g p s key M A dk va ve (L ++ [(2, ((hl (fil key ++ M).length : Nat) : Int)), (3, 31)]) E ex w2 ∧ RdB w2 u (dig s key M) := by
  obtain ⟨b, hb0, la, le, h1, h2, h3⟩ := h
  rw [← List.append_assoc] at h3
  have hfl := fil_len key hk
  have hlen : (fil key ++ M).length ≤ 200064 := by rw [List.length_append, hfl]; split <;> omega
  refine (dsum_any hb0 h3.at.1 (h0_s8 hs hk) hs (fun _ => by omega) h3.at.2 (by omega) hB h2q).mono ?_
  rintro e w2 ⟨g2, rfl, k1, k2⟩
  refine ⟨_, rfl, ⟨b, hb0, la, le, h1, h2, ?_⟩, row_rd (k2.row mem0) (spl_len _ _) (Nat.le_refl _)⟩
  rw [← List.append_assoc, ← hld_hl]
  exact h3.back k2.tail
theorem PS.write (h : PS q W R g p s key M A dk va ve L E ex w') (hB : Beg W) (h2q : 2 ≤ q) (hs : s ≤ 32) (hk : key.length ≤ 32) (hM : M.length ≤ 200000) {m N : Nat} {D : List Int} (hD : Byt D) (hd : dk.take m = D) (hm : m ≤ dk.length) (hN : m ≤ N) (hLl : L.length + D.length ≤ 700000) (hDl : D.length ≤ 200000) :
    Calls Tryd.prog 23 #[.pointer (some ⟨g, 0, none⟩), .slice (some ⟨p, 0, none⟩) m N] w' fun e w2 => e = .returned (.tuple #[]) ∧ PS q W R g p s key (M ++ D) A dk va ve (L ++ wl (hl (fil key ++ M).length) D.length) E ex w2 := by
  obtain ⟨b, hb0, la, le, h1, h2, h3⟩ := h
  rw [← List.append_assoc] at h3
  have hs' : Src q W ((la ++ le) ++ ((p, Obj.cells (VI .u8 dk) 5) :: ex)) (.slice (some ⟨p, 0, none⟩) m N) D := by
    have := src_box (B := q) (w := W) (bx := (la ++ le) ++ ((p, Obj.cells (VI .u8 dk) 5) :: ex)) (List.mem_append_right _ mem0) 0 m N (by omega) hN
    rw [List.drop_zero, hd] at this
    exact this
  have hfl := fil_len key hk
  have hlen : (fil key ++ M).length ≤ 200064 := by rw [List.length_append, hfl]; split <;> omega
  refine (dwrite_src hb0 h3.at.1 (h0_s8 hs hk) (fun _ => by omega) h3.at.2 hs' hD (by omega) hB h2q).mono ?_
  rintro e w2 ⟨rfl, b2, k1, k2⟩
  rw [List.append_assoc] at k1 k2
  refine ⟨rfl, b2, k1, la, le, h1, h2, ?_⟩
  rw [← List.append_assoc, ← hld_hl]
  exact h3.back k2
theorem PS.list (h : PS q W R g p s key M A dk va ve L E ex w') : ∀ cx, Src w'.heap.size w' cx va A := by
  obtain ⟨b, hb0, la, le, h1, h2, h3⟩ := h
  exact (h1.src (B := q) (w := W) (fun p hp => List.mem_append_left _ hp)).at_ h3.1
theorem PS.at_ (h : PS q W R g p s key M A dk va ve L E ex w') {v : Value} {D : List Int} (hS : Src q W [] v D) : ∀ cx, Src w'.heap.size w' cx v D := by
  obtain ⟨b, hb0, la, le, h1, h2, h3⟩ := h
  exact (hS.sub (by simp)).at_ h3.1
theorem PS.join (h : PS q W R g p s key M A dk va ve L E ex w') {l' : List (Int × Int)} {bx : List (Nat × Obj)} {w2 : World} (h' : Ev w'.heap.size w' (.pointer none) l' bx w2) (hnd : (bx.map Prod.fst).Nodup) : PS q W R g p s key M A dk va ve L E (ex ++ bx) w2 := by
  obtain ⟨b, hb0, la, le, h1, h2, h3⟩ := h
  obtain ⟨hj, hd⟩ := h3.1.join h'
  have e : la ++ (le ++ ((g, ho R s key M b) :: (p, .cells (VI .u8 dk) 5) :: (ex ++ bx))) = (la ++ (le ++ ((g, ho R s key M b) :: (p, .cells (VI .u8 dk) 5) :: ex))) ++ bx := by simp
  refine ⟨b, hb0, la, le, h1, h2, ?_⟩
  rw [e]
  refine ⟨hj.sub (fun r hr => List.mem_append.2 (Or.symm (List.mem_append.1 hr))), ?_⟩
  rw [List.map_append]
  refine List.nodup_append.2 ⟨h3.2, hnd, fun a ha c hc e2 => ?_⟩
  obtain ⟨r, hr, rfl⟩ := List.mem_map.1 ha
  obtain ⟨t, ht, rfl⟩ := List.mem_map.1 hc
  exact hd t ht r hr e2
theorem PS.rb (h : PS q W R g p s key M A dk va ve L E ex w') {v : Value} {D : List Int} (hS : Src q W ex v D) : RdB w' v D := by
  obtain ⟨b, hb0, la, le, h1, h2, h3⟩ := h
  exact h3.1.rb (hS.sub (fun p hp => List.mem_append_right _ (List.mem_append_right _ (memr2 hp))))
/-- the document's answer, beside -/
theorem PS.ref (h : PS q W R g p s key M A dk va ve L E ex w') (hs : 1 ≤ s ∧ s ≤ 32) (hk : key.length ≤ 32) (hkb : Byt key) {kv dv : Value} {D : List Int} (hkv : Src q W [] kv key) (hd : ∀ cx, Src w'.heap.size w' cx dv D) (hDb : Byt D) (hDl : D.length ≤ 200000) :
    Calls Tryd.prog 12 #[.int .i64 (s : Int), kv, dv] w' fun e w2 => ∃ v lb, e = .returned (.tuple #[v, .int .i64 0]) ∧ PS q W R g p s key M A dk va ve L E (ex ++ lb) w2 ∧ Src q W (ex ++ lb) v (dig s key D) := by
  obtain ⟨ka, kc, rfl, _, _⟩ := id hkv
  obtain ⟨da, dc, rfl, _, _⟩ := id (hd [])
  refine (rsum_any w' s hs key D _ _ rfl rfl hk hkb hDb hDl ka da kc dc (h.at_ hkv []) (hd [])).mono ?_
  rintro e w2 ⟨v, rfl, lb, k1, k2, k3⟩
  rw [List.append_nil] at k2
  refine ⟨v, lb, rfl, h.join k2 k1.nd, ?_⟩
  have e : s = (dig s key D).length := (dig_len _ _ _).symm
  exact Lst.src (A := dig s key D) (by rw [← e]; exact k1) (fun p hp => List.mem_append_right _ hp)
theorem PS.hid (h : PS q W R g p s key M A dk va ve L E ex w') : Hid (PS q W R g p s key M A dk va ve L E ex w') := h
/-- another desk -/
theorem PS.desk' (h : PS q W R g p s key M A dk va ve L E ex w') {w2 : World} (hb : Below w'.heap.size w' w2) {p' : Nat} {dk' : List Int} (hp : w'.heap.size ≤ p') (hy : w2.heap[p']? = some (.cells (VI .u8 dk') 5)) : PS q W R g p' s key M A dk' va ve L E ex w2 := by
  obtain ⟨b, hb0, la, le, h1, h2, h3⟩ := h
  refine ⟨b, hb0, la, le, h1, h2, ?_⟩
  have e : ∀ (y : Nat × Obj), la ++ (le ++ ((g, ho R s key M b) :: y :: ex)) = (la ++ (le ++ [(g, ho R s key M b)])) ++ y :: ex := fun y => by simp
  rw [e] at h3 ⊢
  exact h3.swapBox hb hp hy
/-- the desk is written -/
theorem PS.put (h : PS q W R g p s key M A dk va ve L E ex w') {w2 : World} (hb : Grow (fun k => k = p) w' w2) {dk' : List Int} (hy : w2.heap[p]? = some (.cells (VI .u8 dk') 5)) : PS q W R g p s key M A dk' va ve L E ex w2 := by
  obtain ⟨b, hb0, la, le, h1, h2, h3⟩ := h
  refine ⟨b, hb0, la, le, h1, h2, ?_⟩
  have e : ∀ (y : Nat × Obj), la ++ (le ++ ((g, ho R s key M b) :: y :: ex)) = (la ++ (le ++ [(g, ho R s key M b)])) ++ y :: ex := fun y => by simp
  rw [e] at h3 ⊢
  exact h3.back (h3.at.1.set rfl h3.at.2 hb hy)
theorem PS.appA (h : PS q W R g p s key M A dk va ve L E ex w') {u : Value} {D : List Int} (hS : Src q W [] u D) (hn : A.length + D.length ≤ 1000000) (ty : TypeId) :
    ∃ v2 w2, (Builtin.append_ #[22, 22] ty #[va, u]).run Tryd.prog w' = .ok v2 w2 ∧ PS q W R g p s key M (A ++ D) dk v2 ve L E ex w2 := by
  obtain ⟨b, hb0, la, le, h1, h2, h3⟩ := h
  obtain ⟨k1, k2⟩ := EN.list (A := []) h3
  obtain ⟨v2, w2, hr, lb', j1, j2, j3⟩ := k1.appB h1 k2 ty (hS.sub (fun p hp => nomatch hp)) hn
  refine ⟨v2, w2, hr, b, hb0, lb', le, by rw [List.length_append]; exact j1, h2, ?_⟩
  exact EN.listBack (A := []) h3 j1.nd j2 j3
theorem PS.appE (h : PS q W R g p s key M A dk va ve L E ex w') {B' : Nat} {u : Value} {news : List (Int × Int)} (hu : w'.ownsRow B' 82 2 u news.length (evC news)) (h0 : 0 < news.length) (hn : E.length + news.length ≤ 1000000) (ty : TypeId) :
    ∃ v2 w2, (Builtin.append_ #[36, 36] ty #[ve, u]).run Tryd.prog w' = .ok v2 w2 ∧ PS q W R g p s key M A dk va v2 L (E ++ news) ex w2 := by
  obtain ⟨b, hb0, la, le, h1, h2, h3⟩ := h
  obtain ⟨k1, k2⟩ := h3.list
  obtain ⟨i0, hi0, hz0⟩ := Option.map_eq_some_iff.1 info37
  simp only [Prod.mk.injEq] at hz0
  obtain ⟨hz1, hz2, hz3⟩ := hz0
  rcases hu.2 with ⟨_, e⟩ | ⟨bb, cap, cur, rfl, _⟩
  · omega
  · have hc := hu.cells (g := bb) rfl
    obtain ⟨v2, w2, hr, lb', j1, j2, j3⟩ := k1.app h2 k2 36 ty i0 (.agg #[.int .i64 0, .int .i64 0]) 16 Tryd.underlying36 hi0 hz1 hz2 hz3 rfl (by decide) ⟨bb, 0, none⟩ news.length cap (evC news) (evC_len news) hc (fun u hu => by
      simp only [evC, List.mem_flatMap, List.mem_cons, List.not_mem_nil, or_false] at hu
      obtain ⟨x, _, rfl | rfl⟩ := hu <;> rfl) (by unfold maxLen; omega) (by omega)
    refine ⟨v2, w2, hr, b, hb0, la, lb', h1, by rw [List.length_append, evC_app]; exact j1, ?_⟩
    exact h3.listBack j1.nd j2 j3
/-- one box more; none more -/
theorem PS.add (h : PS q W R g p s key M A dk va ve L E [] w') {w2 : World} (hb : Below w'.heap.size w' w2) {px : Nat} {y : Obj} (hp : w'.heap.size ≤ px) (hy : w2.heap[px]? = some y) : PS q W R g p s key M A dk va ve L E [(px, y)] w2 := by
  obtain ⟨b, hb0, la, le, h1, h2, h3⟩ := h
  refine ⟨b, hb0, la, le, h1, h2, ?_, ?_⟩
  · refine (h3.1.fresh hb hp hy).sub (fun r hr => ?_)
    simp only [List.mem_append, List.mem_cons, List.not_mem_nil, or_false] at hr ⊢
    rcases hr with hr | hr | hr | hr | hr
    · exact .inr (.inl hr)
    · exact .inr (.inr (.inl hr))
    · exact .inr (.inr (.inr (.inl hr)))
    · exact .inr (.inr (.inr (.inr hr)))
    · exact .inl hr
  · have e : la ++ (le ++ [(g, ho R s key M b), (p, .cells (VI .u8 dk) 5), (px, y)]) = (la ++ (le ++ [(g, ho R s key M b), (p, .cells (VI .u8 dk) 5)])) ++ [(px, y)] := by simp
    rw [e, List.map_append]
    refine List.nodup_append.2 ⟨h3.2, by simp, fun a ha b hb' e2 => ?_⟩
    obtain ⟨r, hr, rfl⟩ := List.mem_map.1 ha
    simp only [List.map_cons, List.map_nil, List.mem_singleton] at hb'
    have := heap_lt (h3.1.at' r hr)
    omega
theorem PS.drop (h : PS q W R g p s key M A dk va ve L E ex w') : PS q W R g p s key M A dk va ve L E [] w' := by
  obtain ⟨b, hb0, la, le, h1, h2, h3⟩ := h
  have e : la ++ (le ++ ((g, ho R s key M b) :: (p, .cells (VI .u8 dk) 5) :: ex)) = (la ++ (le ++ [(g, ho R s key M b), (p, .cells (VI .u8 dk) 5)])) ++ ex := by simp
  rw [e] at h3
  refine ⟨b, hb0, la, le, h1, h2, h3.1.sub (fun r hr => List.mem_append_left _ hr), ?_⟩
  have := h3.2
  rw [List.map_append] at this
  exact (List.nodup_append.1 this).1
theorem PS.exR (h : PS q W R g p s key M A dk va ve L E ex w') {px : Nat} {y : Obj} (hm : (px, y) ∈ ex) : w'.heap[px]? = some y := by
  obtain ⟨b, hb0, la, le, h1, h2, h3⟩ := h
  exact h3.1.row (List.mem_append_right _ (List.mem_append_right _ (List.mem_cons_of_mem _ (List.mem_cons_of_mem _ hm))))
end
/-- the cells from o on are vs -/
def putli : List Int → Nat → List Int → List Int
  | L, _, [] => L
  | L, o, v :: r => putli (L.set o v) (o + 1) r
theorem putli_len : ∀ (vs L : List Int) (o : Nat), (putli L o vs).length = L.length
  | [], _, _ => rfl
  | v :: r, L, o => by rw [putli, putli_len r]; simp
theorem putli_cons : ∀ (vs L : List Int) (x : Int) (o : Nat), putli (x :: L) (o + 1) vs = x :: putli L o vs
  | [], _, _, _ => rfl
  | v :: r, L, x, o => by rw [putli, putli, List.set_cons_succ, putli_cons r]
theorem putli_zero : ∀ (vs L : List Int), vs.length ≤ L.length → putli L 0 vs = vs ++ L.drop vs.length
  | [], L, _ => rfl
  | v :: r, [], h => by simp at h
  | v :: r, x :: L, h => by
    rw [putli, List.set_cons_zero, putli_cons, putli_zero r L (by simpa using h)]
    rfl
theorem setCells_row : ∀ (vs : List Int) {w : World} {p o : Nat} {L : List Int} {T : TypeId}, w.heap[p]? = some (.cells (VI .u8 L) T) → (w.setCells p o (vs.map (Value.int .u8))).heap[p]? = some (.cells (VI .u8 (putli L o vs)) T)
  | [], _, _, _, _, _, h => h
  | v :: r, w, p, o, L, T, h => by
    have h1 : (w.setCell ⟨p, o, none⟩ (.int .u8 v)).heap[p]? = some (.cells (VI .u8 (L.set o v)) T) := by
      rw [heap_setCell_same w _ _ _ _ _ h]
      simp [VI, List.map_set]
    exact setCells_row r h1
theorem setCells_grow : ∀ (cs : List Value) {a w : World} {p o : Nat}, Grow (fun k => k = p) a w → Grow (fun k => k = p) a (w.setCells p o cs)
  | [], _, _, _, _, h => h
  | v :: r, a, w, p, o, h => setCells_grow r (h.setCell (p := ⟨p, o, none⟩) (.inl rfl) v)
/-- bytes of a box are copied to the desk -/
theorem PS.copy {q : Nat} {W : World} {R g p s : Nat} {key M A dk : List Int} {va ve : Value} {L E : List (Int × Int)} {ex : List (Nat × Obj)} {w' : World} (h : PS q W R g p s key M A dk va ve L E ex w') {gg : Nat} {G : List Int} {T : TypeId} (hg : w'.heap[gg]? = some (.cells (VI .u8 G) T)) {N K : Nat} (hN : dk.length = N) (hK : G.length = K) (hle : K ≤ N) (ty : TypeId) :
    ∃ w2, (Builtin.copy_ #[22, 22] ty #[.slice (some ⟨p, 0, none⟩) N N, .slice (some ⟨gg, 0, none⟩) K K]).run Tryd.prog w' = .ok (goInt K) w2 ∧ PS q W R g p s key M A (G ++ dk.drop K) va ve L E ex w2 := by
  subst hN; subst hK
  refine ⟨w'.setCells p 0 (G.map (Value.int .u8)), ?_, ?_⟩
  · have := run_copy_cells (P := Tryd.prog) w' 22 22 ty 5 p 0 dk.length dk.length ⟨gg, 0, none⟩ G.length G.length (G.map (Value.int .u8)) Tryd.underlying22 (by kernel_rfl) (by rw [List.length_map]; exact (Nat.min_eq_left hle).symm)
      (fun j v hv => by
        rw [add_mid, Nat.zero_add, cell_of_row w' _ _ _ _ _ hg]
        simpa [VI] using hv)
      (fun j hj => by
        rw [List.length_map] at hj
        rw [Nat.zero_add, cell_of_row w' _ _ _ _ _ h.desk, VI_at _ _ _ (by omega)]; rfl)
      (fun j hj => frozen_of_row w' _ _ _ _ h.desk)
      (fun v hv => by
        obtain ⟨x, _, rfl⟩ := List.mem_map.1 hv
        rfl)
    rw [List.length_map] at this
    exact this
  · refine h.put (setCells_grow _ (Grow.refl _ _)) ?_
    rw [setCells_row G h.desk, putli_zero G dk hle]
end Go.Proofs.YtfkbgodfcnmepaaDoor
namespace Go.Proofs.YtfkbgodfcnmepaaDoor
set_option linter.unusedSimpArgs false
set_option linter.unusedVariables false
open Go.ChangeShapes Go.WideShapes Go.ChangeAt Go.RowKit Go.Pin Go.Str Go.Dig
/-- a Hash, what it has taken, and a list beside it -/
structure Hd where
  g : Nat
  s : Nat
  key : List Int
  H : List Int
  X : List Int
  v : Value
def Hd.ok (x : Hd) : Prop := (1 ≤ x.s ∧ x.s ≤ 32) ∧ x.key.length ≤ 32 ∧ Byt x.key ∧ Byt x.H ∧ x.H.length ≤ 200000 ∧ x.X.length ≤ 200000
def Hd.ob (x : Hd) (b : List Int) : Obj := hst (.pointer none) x.s (h0 x.s x.key.length) (fil x.key ++ x.H) b
theorem Hd.ok.s8 {x : Hd} (h : x.ok) : S8 (h0 x.s x.key.length) := h0_s8 h.1.2 h.2.1
theorem Hd.ok.len {x : Hd} (h : x.ok) : (fil x.key ++ x.H).length ≤ 200064 := by
  have h1 := fil_len x.key h.2.1
  have h2 := h.2.2.2.2.1
  rw [List.length_append, h1]
  split <;> omega
def T2 (q : Nat) (W : World) (x y : Hd) (ex : List (Nat × Obj)) (w' : World) : Prop :=
  ∃ b1 b2 lx ly, HSb (fil x.key ++ x.H) b1 ∧ HSb (fil y.key ++ y.H) b2 ∧ Lst 5 1 x.v x.X.length (x.X.map (Value.int .u8)) lx ∧ Lst 5 1 y.v y.X.length (y.X.map (Value.int .u8)) ly
    ∧ Ev q W (.pointer none) [] ((x.g, x.ob b1) :: (y.g, y.ob b2) :: (lx ++ (ly ++ ex))) w' ∧ x.g ≠ y.g ∧ (∀ p ∈ lx ++ (ly ++ ex), p.1 ≠ x.g ∧ p.1 ≠ y.g) ∧ (∀ p ∈ lx, ∀ r ∈ ly ++ ex, r.1 ≠ p.1) ∧ (∀ p ∈ ly, ∀ r ∈ ex, r.1 ≠ p.1)
section
variable {q : Nat} {W : World} {x y : Hd} {ex : List (Nat × Obj)} {w' w2 : World}
theorem T2.old (h : T2 q W x y ex w') : Below q W w' := by obtain ⟨b1, b2, lx, ly, _, _, _, _, h, _⟩ := h; exact h.old
theorem T2.le (h : T2 q W x y ex w') : q ≤ w'.heap.size := by obtain ⟨b1, b2, lx, ly, _, _, _, _, h, _⟩ := h; exact h.le
theorem T2.below (h : T2 q W x y ex w') (hb : Below w'.heap.size w' w2) : T2 q W x y ex w2 := by
  obtain ⟨b1, b2, lx, ly, h1, h2, h3, h4, h5, h6, h7, h8, h9⟩ := h
  exact ⟨b1, b2, lx, ly, h1, h2, h3, h4, h5.below hb, h6, h7, h8, h9⟩
theorem T2.swap (h : T2 q W x y ex w') : T2 q W y x ex w' := by
  obtain ⟨b1, b2, lx, ly, h1, h2, h3, h4, h5, h6, h7, h8, h9⟩ := h
  refine ⟨b2, b1, ly, lx, h2, h1, h4, h3, h5.sub (fun p hp => ?_), h6.symm, fun p hp => ?_, fun p hp r hr => ?_, fun p hp r hr => h8 p hp r (List.mem_append_right _ hr)⟩
  · simp only [List.mem_cons, List.mem_append] at hp ⊢
    rcases hp with hp | hp | hp | hp | hp
    · exact .inr (.inl hp)
    · exact .inl hp
    · exact .inr (.inr (.inr (.inl hp)))
    · exact .inr (.inr (.inl hp))
    · exact .inr (.inr (.inr (.inr hp)))
  · have := h7 p (by simp only [List.mem_append] at hp ⊢; rcases hp with hp | hp | hp; exact .inr (.inl hp); exact .inl hp; exact .inr (.inr hp))
    exact ⟨this.2, this.1⟩
  · rcases List.mem_append.1 hr with hr | hr
    · exact fun e => h8 r hr p (List.mem_append_left _ hp) e.symm
    · exact h9 p hp r hr
theorem T2.drop (h : T2 q W x y ex w') {ey : List (Nat × Obj)} (hs : ∀ p ∈ ey, p ∈ ex) : T2 q W x y ey w' := by
  obtain ⟨b1, b2, lx, ly, h1, h2, h3, h4, h5, h6, h7, h8, h9⟩ := h
  have hm : ∀ p ∈ lx ++ (ly ++ ey), p ∈ lx ++ (ly ++ ex) := fun p hp => by
    simp only [List.mem_append] at hp ⊢
    rcases hp with hp | hp | hp
    · exact .inl hp
    · exact .inr (.inl hp)
    · exact .inr (.inr (hs p hp))
  refine ⟨b1, b2, lx, ly, h1, h2, h3, h4, h5.sub (fun p hp => ?_), h6, fun p hp => h7 p (hm p hp), fun p hp r hr => h8 p hp r ?_, fun p hp r hr => h9 p hp r (hs r hr)⟩
  · simp only [List.mem_cons] at hp ⊢
    rcases hp with hp | hp | hp
    · exact .inl hp
    · exact .inr (.inl hp)
    · exact .inr (.inr (hm p hp))
  · rcases List.mem_append.1 hr with hr | hr
    · exact List.mem_append_left _ hr
    · exact List.mem_append_right _ (hs r hr)
/-- new boxes beside -/
theorem T2.join (h : T2 q W x y ex w') {l' : List (Int × Int)} {bx : List (Nat × Obj)} (h' : Ev w'.heap.size w' (.pointer none) l' bx w2) : T2 q W x y (bx ++ ex) w2 := by
  obtain ⟨b1, b2, lx, ly, h1, h2, h3, h4, h5, h6, h7, h8, h9⟩ := h
  obtain ⟨hj, hd⟩ := h5.join h'
  refine ⟨b1, b2, lx, ly, h1, h2, h3, h4, hj.sub (fun p hp => ?_), h6, fun p hp => ?_, fun p hp r hr => ?_, fun p hp r hr => ?_⟩
  · simp only [List.mem_cons, List.mem_append] at hp ⊢
    rcases hp with hp | hp | hp | hp | hp | hp
    · exact .inr (.inl hp)
    · exact .inr (.inr (.inl hp))
    · exact .inr (.inr (.inr (.inl hp)))
    · exact .inr (.inr (.inr (.inr (.inl hp))))
    · exact .inl hp
    · exact .inr (.inr (.inr (.inr (.inr hp))))
  · simp only [List.mem_append] at hp
    rcases hp with hp | hp | hp | hp
    · exact h7 p (List.mem_append_left _ hp)
    · exact h7 p (List.mem_append_right _ (List.mem_append_left _ hp))
    · exact ⟨fun e => hd p hp _ mem0 e.symm, fun e => hd p hp _ mem1 e.symm⟩
    · exact h7 p (List.mem_append_right _ (List.mem_append_right _ hp))
  · simp only [List.mem_append] at hr
    rcases hr with hr | hr | hr
    · exact h8 p hp r (List.mem_append_left _ hr)
    · exact fun e => hd r hr p (memr2 (List.mem_append_left _ hp)) e.symm
    · exact h8 p hp r (List.mem_append_right _ hr)
  · rcases List.mem_append.1 hr with hr | hr
    · exact fun e => hd r hr p (memr2 (List.mem_append_right _ (List.mem_append_left _ hp))) e.symm
    · exact h9 p hp r hr
theorem T2.slice (h : T2 q W x y ex w') {n : Nat} (hn : x.X.length = n) : ∃ a c, x.v = .slice a n c := by
  obtain ⟨b1, b2, lx, ly, h1, h2, h3, _⟩ := h
  rw [← hn]; exact h3.slice'
/-- the list is read -/
theorem T2.list (h : T2 q W x y ex w') : ∀ cx, Src w'.heap.size w' cx x.v x.X := by
  obtain ⟨b1, b2, lx, ly, h1, h2, h3, h4, h5, _⟩ := h
  exact (h3.src (B := q) (w := W) (bx := (x.g, x.ob b1) :: (y.g, y.ob b2) :: (lx ++ (ly ++ ex))) (fun p hp => memr2 (List.mem_append_left _ hp))).at_ h5
theorem T2.rb (h : T2 q W x y ex w') {v : Value} {D : List Int} (hS : Src q W ex v D) : RdB w' v D := by
  obtain ⟨b1, b2, lx, ly, h1, h2, h3, h4, h5, _⟩ := h
  exact h5.rb (hS.sub (fun p hp => memr2 (List.mem_append_right _ (List.mem_append_right _ hp))))
theorem T2.at_ (h : T2 q W x y ex w') {v : Value} {D : List Int} (hS : Src q W ex v D) : ∀ cx, Src w'.heap.size w' cx v D := by
  obtain ⟨b1, b2, lx, ly, h1, h2, h3, h4, h5, _⟩ := h
  exact (hS.sub (fun p hp => memr2 (List.mem_append_right _ (List.mem_append_right _ hp)))).at_ h5
theorem T2.write (h : T2 q W x y ex w') (hx : x.ok) (hB : Beg W) (h2 : 2 ≤ q) {u : Value} {D : List Int} (hD : Byt D) (hs : Src q W [] u D) (hl : x.H.length + D.length ≤ 200000) :
    Calls Tryd.prog 23 #[.pointer (some ⟨x.g, 0, none⟩), u] w' fun e w2 => e = .returned (.tuple #[]) ∧ T2 q W { x with H := x.H ++ D } y ex w2 := by
  obtain ⟨b1, b2, lx, ly, h1, h2', h3, h4, h5, h6, h7, h8, h9⟩ := h
  have hlen := hx.len
  refine (dwrite_src h1 h5 hx.s8 (fun hr => absurd rfl hr) (fun p hp => ?_) (hs.sub (by simp)) hD (by have := hx.2.2.2.2.1; omega) hB h2).mono ?_
  · rcases List.mem_cons.1 hp with rfl | hp
    · exact h6.symm
    · exact (h7 p hp).1
  · rintro e w2 ⟨rfl, b3, k1, k2⟩
    rw [List.append_assoc] at k1 k2
    exact ⟨rfl, b3, b2, lx, ly, k1, h2', h3, h4, k2.nilOf [], h6, h7, h8, h9⟩
theorem T2.sum (h : T2 q W x y ex w') (hx : x.ok) (hB : Beg W) (h2 : 2 ≤ q) :
    Calls Tryd.prog 22 #[.pointer (some ⟨x.g, 0, none⟩)] w' fun e w2 => ∃ g2, e = .returned (.slice (some ⟨g2, 0, none⟩) x.s x.s) ∧ T2 q W x y ex w2 ∧ RdB w2 (.slice (some ⟨g2, 0, none⟩) x.s x.s) (dig x.s x.key x.H) := by
  obtain ⟨b1, b2, lx, ly, h1, h2', h3, h4, h5, h6, h7, h8, h9⟩ := h
  have hlen := hx.len
  refine (dsum_any h1 h5 hx.s8 hx.1.2 (fun hr => absurd rfl hr) (fun p hp => ?_) (by omega) hB h2).mono ?_
  · rcases List.mem_cons.1 hp with rfl | hp
    · exact h6.symm
    · exact (h7 p hp).1
  · rintro e w2 ⟨g2, rfl, k1, k2⟩
    exact ⟨g2, rfl, ⟨b1, b2, lx, ly, h1, h2', h3, h4, k2.tail.nilOf [], h6, h7, h8, h9⟩, row_rd (k2.row mem0) (spl_len _ _) (Nat.le_refl _)⟩
theorem T2.app (h : T2 q W x y ex w') (hx : x.ok) {u : Value} {D : List Int} (hs : Src q W [] u D) (hl : D.length ≤ 200000) (ty : TypeId) :
    ∃ v' w2, (Builtin.append_ #[22, 22] ty #[x.v, u]).run Tryd.prog w' = .ok v' w2 ∧ T2 q W { x with X := x.X ++ D, v := v' } y ex w2 := by
  obtain ⟨b1, b2, lx, ly, h1, h2, h3, h4, h5, h6, h7, h8, h9⟩ := h
  have hsub : Ev q W (.pointer none) [] (lx ++ ((x.g, x.ob b1) :: (y.g, y.ob b2) :: (ly ++ ex))) w' := h5.sub (fun p hp => by
    simp only [List.mem_cons, List.mem_append] at hp ⊢
    rcases hp with hp | hp | hp | hp | hp
    · exact .inr (.inr (.inl hp))
    · exact .inl hp
    · exact .inr (.inl hp)
    · exact .inr (.inr (.inr (.inl hp)))
    · exact .inr (.inr (.inr (.inr hp))))
  obtain ⟨v', w2, hr, lb', k1, k2, k3⟩ := hsub.appB h3 (fun p hp r hr => by
    simp only [List.mem_cons] at hr
    rcases hr with rfl | rfl | hr
    · exact fun e => (h7 p (List.mem_append_left _ hp)).1 e.symm
    · exact fun e => (h7 p (List.mem_append_left _ hp)).2 e.symm
    · exact h8 p hp r hr) ty (hs.sub (by simp)) (by have := hx.2.2.2.2.2; omega)
  refine ⟨v', w2, hr, b1, b2, lb', ly, h1, h2, ?_, h4, k2.sub (fun p hp => ?_), h6, fun p hp => ?_, fun p hp r hr => ?_, h9⟩
  · show Lst 5 1 v' (x.X ++ D).length ((x.X ++ D).map (Value.int .u8)) lb'
    rw [List.length_append]; exact k1
  · simp only [List.mem_cons, List.mem_append] at hp ⊢
    rcases hp with hp | hp | hp | hp | hp
    · exact .inr (.inl hp)
    · exact .inr (.inr (.inl hp))
    · exact .inl hp
    · exact .inr (.inr (.inr (.inl hp)))
    · exact .inr (.inr (.inr (.inr hp)))
  · rcases List.mem_append.1 hp with hp | hp
    · exact ⟨fun e => k3 p hp _ mem0 e.symm, fun e => k3 p hp _ mem1 e.symm⟩
    · exact h7 p (List.mem_append_right _ hp)
  · exact k3 p hp r (memr2 hr)
/-- the document's answer, beside -/
theorem T2.ref (h : T2 q W x y ex w') (hx : x.ok) (hXb : Byt x.X) {kv dv : Value} {D : List Int} (hk : Src q W [] kv x.key) (hd : ∀ cx, Src w'.heap.size w' cx dv D) (hDb : Byt D) (hDl : D.length ≤ 200000) :
    Calls Tryd.prog 12 #[.int .i64 (x.s : Int), kv, dv] w' fun e w2 => ∃ v lb, e = .returned (.tuple #[v, .int .i64 0]) ∧ T2 q W x y (lb ++ ex) w2 ∧ Src q W (lb ++ ex) v (dig x.s x.key D) := by
  obtain ⟨ka, kc, rfl, _, _⟩ := id hk
  obtain ⟨da, dc, rfl, _, _⟩ := id (hd [])
  refine (rsum_any w' x.s hx.1 x.key D _ _ rfl rfl hx.2.1 hx.2.2.1 hDb hDl ka da kc dc (h.at_ (hk.sub (by simp)) []) (hd [])).mono ?_
  rintro e w2 ⟨v, rfl, lb, k1, k2, k3⟩
  rw [List.append_nil] at k2
  refine ⟨v, lb, rfl, h.join k2, ?_⟩
  have e : x.s = (dig x.s x.key D).length := (dig_len _ _ _).symm
  exact Lst.src (A := dig x.s x.key D) (by rw [← e]; exact k1) (fun p hp => List.mem_append_left _ hp)
end
end Go.Proofs.YtfkbgodfcnmepaaDoor
