import Derived.Test.YtfkbgodfcnmepaaDoorDmau
import Derived.Test.YtfkbgodfcnmepaaDoorDmat
namespace Go.Proofs.YtfkbgodfcnmepaaDoor
set_option linter.unusedSimpArgs false
set_option linter.unusedVariables false
open Go.ChangeShapes Go.WideShapes Go.ChangeAt Go.RowKit Go.Pin Go.Str Go.Dig
theorem wrapL2 {a b : Nat} (h : b ≤ a) (ha : a ≤ 131072) : wrap64 ((a : Int) - (b : Int)) = ((a - b : Nat) : Int) ∧ IntKind.i64.wrap ((a : Int) - (b : Int)) = ((a - b : Nat) : Int) := by
  rw [IntWalk.wrap64_in _ ⟨by omega, by omega⟩, IntWalk.i64_in _ ⟨by omega, by omega⟩]
  omega
theorem byt_app {X D : List Int} (h1 : Byt X) (h2 : Byt D) : Byt (X ++ D) := fun x hx => by
  rcases List.mem_append.1 hx with hx | hx
  · exact h1 x hx
  · exact h2 x hx
/-- New and what is made of it, nothing beside -/
theorem dnew_t {q : Nat} {W w' : World} (h : Ev q W (.pointer none) [] [] w') (hB : Beg W) (h2 : 2 ≤ q) (s : Nat) (hs : 1 ≤ s ∧ s ≤ 32) (kv : Value) (D : List Int) (hk : Src q W [] kv D) (h32 : D.length ≤ 32) (hD : Byb D) : Calls Tryd.prog 11 #[.pointer none, .int .i64 (s : Int), kv] w' fun e w2 => ∃ g, e = .returned (.tuple #[.pointer (some ⟨g, 0, none⟩), .nilIface]) ∧ Ev q W (.pointer none) [] [] w2 ∧ ∃ b, HSb (fil D ++ []) b ∧ Ev q W (.pointer none) [] [(g, hst (.pointer none) s (h0 s D.length) (fil D ++ []) b)] w2 := by
  refine (dnew_any h (fun hr => absurd rfl hr) s hs hB h2 kv D hk h32 hD).mono ?_
  rintro e w2 ⟨g, rfl, o, hne, hst, he⟩
  obtain ⟨b, k1, rfl⟩ := hst.blk
  rw [List.append_nil]
  exact ⟨g, rfl, (he.sub (by simp)).nilOf [], b, k1, he.nilOf []⟩
theorem dnew_b {q : Nat} {W w' : World} (h : Ev q W (.pointer none) [] [] w') (h2 : 2 ≤ q) {ea : Addr} (hE : W.cell? ⟨0, 0, none⟩ = some (.iface 120 (.pointer (some ea)))) (z : Int) (ka : Option Addr) (k cap : Nat) (hbad : z < 1 ∨ 32 < z ∨ 32 < k) : Calls Tryd.prog 11 #[.pointer none, .int .i64 z, .slice ka k cap] w' fun e w2 => e = .returned (.tuple #[.pointer none, .iface 120 (.pointer (some ea))]) ∧ Ev q W (.pointer none) [] [] w2 := by
  refine (dnew_bad h (fun hr => absurd rfl hr) z _ hE (by omega) ka k cap hbad).mono ?_
  rintro e w2 ⟨rfl, he⟩
  exact ⟨rfl, he.nilOf []⟩
theorem dnew_2 {q : Nat} {W w' : World} {g1 : Nat} {s1 : Nat} {key : List Int} {b1 : List Int} (hb1 : HSb (fil key ++ []) b1) (h : Ev q W (.pointer none) [] [(g1, hst (.pointer none) s1 (h0 s1 key.length) (fil key ++ []) b1)] w') (hB : Beg W) (h2 : 2 ≤ q) (s : Nat) (hs : 1 ≤ s ∧ s ≤ 32) :
    Calls Tryd.prog 11 #[.pointer none, .int .i64 (s : Int), .slice none 0 0] w' fun e w2 => ∃ g, e = .returned (.tuple #[.pointer (some ⟨g, 0, none⟩), .nilIface]) ∧ T2 q W ⟨g1, s1, key, [], [], .slice none 0 0⟩ ⟨g, s, [], [], [], .slice none 0 0⟩ [] w2 := by
  refine (dnew_any h (fun hr => absurd rfl hr) s hs hB h2 _ [] (src_nil _ _ _) (by simp) (fun x hx => nomatch hx)).mono ?_
  rintro e w2 ⟨g, rfl, o, hne, hst, he⟩
  obtain ⟨b, k1, rfl⟩ := hst.blk
  refine ⟨g, rfl, b1, b, [], [], hb1, by rw [List.append_nil]; exact k1, lst_nil _ _, lst_nil _ _, ?_, hne _ mem0, (fun p hp => nomatch hp), (fun p hp => nomatch hp), (fun p hp => nomatch hp)⟩
  refine (he.sub (fun p hp => ?_)).nilOf []
  simp only [List.mem_cons, List.append_nil, List.not_mem_nil, or_false] at hp ⊢
  rcases hp with rfl | rfl
  · right; unfold Hd.ob; simp
  · left; unfold Hd.ob; simp
theorem rsum_w {W : World} {s : Nat} (hs : 1 ≤ s ∧ s ≤ 32) {key D : List Int} (hkl : key.length ≤ 32) (hkb : Byb key) (hDb : Byb D) (hDl : D.length ≤ 200000) {kv dv : Value} (hk : Src W.heap.size W [] kv key) (hd : Src W.heap.size W [] dv D) :
    Calls Tryd.prog 12 #[.int .i64 (s : Int), kv, dv] W fun e w' => ∃ v, e = .returned (.tuple #[v, .int .i64 0]) ∧ Below W.heap.size W w' := by
  obtain ⟨ka, kc, rfl, _, _⟩ := id hk
  obtain ⟨da, dc, rfl, _, _⟩ := id hd
  refine (rsum_any W s hs key D _ _ rfl rfl hkl hkb hDb hDl ka da kc dc hk hd).mono ?_
  rintro e w' ⟨v, rfl, h⟩
  exact ⟨v, rfl, h.ev.old⟩
theorem err_at {q : Nat} {W w' : World} (h : Below q W w') (h2 : 2 ≤ q) {v : Value} (hE : W.cell? ⟨0, 0, none⟩ = some v) : w'.cell? ⟨0, 0, none⟩ = some v := (World.cell?_of_block (a := ⟨0, 0, none⟩) (h.block 0 (by omega))).trans hE
set_option maxRecDepth 100000 in
set_option maxHeartbeats 8000000 in
theorem two_refbb (n : Nat) (z1 : Int) (hz1 : z1 < 1 ∨ 32 < z1 ∨ 32 < n) (z2 : Int) (hz2 : z2 < 1 ∨ 32 < z2 ∨ 32 < (0 : Nat)) (key : List Int) (hkb : Byt key) (hkn : key.length = n) (a : Option Addr) (cap : Nat) (ms : Nat) (sa : Option Addr) (caps : Nat) (W : World) (q : Nat) (hq : W.heap.size = q) (hk : ∀ bx, Src q W bx (.slice a n cap) key) (hm : ms ≤ 400) (hnb : n ≤ 131072) (hB : Beg W) (hE : ∃ a, W.cell? ⟨0, 0, none⟩ = some (.iface 120 (.pointer (some a)))) :
    Calls Tryd.prog 6 #[.int .i64 z1, .int .i64 z2, .slice a n cap, .slice sa ms caps] W fun e w' => e = .returned (.bool true) ∧ Below q W w' := by
  have e0 := ev_nil' W
  rw [hq] at e0
  have E0 : Hid (Ev q W (.pointer none) [] [] W) := e0
  have HK : Hid ((∀ bx, Src q W bx (.slice a n cap) key) ∧ key.length = n ∧ Byt key) := ⟨hk, hkn, hkb⟩
  have HBE : Hid (Beg W ∧ 2 ≤ q ∧ ∃ a, W.cell? ⟨0, 0, none⟩ = some (.iface 120 (.pointer (some a)))) := ⟨hB, by rw [← hq]; exact hB.2, hE⟩
  obtain ⟨ea, hea⟩ := HBE.out.2.2
  have HEA : Hid (W.cell? ⟨0, 0, none⟩ = some (.iface 120 (.pointer (some ea)))) := hea
  have HZ1 : Hid (z1 < 1 ∨ 32 < z1 ∨ 32 < n) := hz1
  have HZ2 : Hid (z2 < 1 ∨ 32 < z2 ∨ 32 < (0 : Nat)) := hz2
  have b0 : ¬ (400 : Int) < (ms : Int) := by omega
  have b1 : ¬ (131072 : Int) < (n : Int) := by omega
  have CD1 : Hid _ := dnew_b E0.out HBE.out.2.1 HEA.out z1 a n cap HZ1.out
  clear hk hkn hkb e0 hq hB hE hea hz1 hz2 hm hnb 
  go_enter Tryd.func6, Tryd.ntmps6
  go_upto_region 4 with (first | (go_at_call 11; refine Calls.mono CD1.out ?_; rintro e w1 ⟨rfl, h1⟩; have CD2 : Hid _ := dnew_b h1 HBE.out.2.1 HEA.out z2 none 0 0 HZ2.out; clear h1 CD1))
  clear b0 b1
  go_upto_region 5 with (first | (go_at_call 11; refine Calls.mono CD2.out ?_; rintro e w2 ⟨rfl, h2⟩; have CS1 : Hid _ := rsum_bad w2 z1 a n cap (.slice none 0 0) HZ1.out; have H2 : Hid _ := h2; clear h2 CD2))
  go_upto_region 6 with (first | (go_at_call 12; refine Calls.mono CS1.out ?_; rintro e w3 ⟨rfl, hV⟩; have h3 : Ev q W (.pointer none) [] [] w3 := (by rw [hV]; exact H2.out); clear hV; have CS2 : Hid _ := rsum_bad w3 z2 none 0 0 (.slice none 0 0) HZ2.out; have H3 : Hid _ := h3; clear h3 CS1 H2))
  go_upto_region 7 with (first | (go_at_call 12; refine Calls.mono CS2.out ?_; rintro e w4 ⟨rfl, hV⟩; have h4 : Ev q W (.pointer none) [] [] w4 := (by rw [hV]; exact H3.out); clear hV; have CC1 : Hid (Calls Tryd.prog 13 #[(.iface 120 (.pointer (some ea)))] w4 fun e w' => e = .returned (.int .i64 1) ∧ w' = w4) := code_arg w4 ea (err_at h4.old HBE.out.2.1 HEA.out); have CC2 : Hid (Calls Tryd.prog 13 #[(.iface 120 (.pointer (some ea)))] w4 fun e w' => e = .returned (.int .i64 1) ∧ w' = w4) := code_arg w4 ea (err_at h4.old HBE.out.2.1 HEA.out); have CK : Hid (Calls Tryd.prog 18 #[] w4 fun e w' => e = .returned (.bool true) ∧ Below q W w') := known_at h4.old HBE.out.1 HBE.out.2.1 HBE.out.2.2 h4.le; clear h4 CS2 H3))
  go_wp2_with (first | (go_at_call 13; first | (refine Calls.mono CC1.out ?_; rintro e w5 ⟨rfl, hV⟩; obtain rfl := hV) | (refine Calls.mono CC2.out ?_; rintro e w5 ⟨rfl, hV⟩; obtain rfl := hV)) | (go_at_call 18; refine Calls.mono CK.out ?_; rintro e w9 ⟨rfl, h9⟩; have H9 : Hid _ := h9; clear h9 CK))
  go_ret
  exact ⟨rfl, H9.out⟩
set_option maxRecDepth 100000 in
set_option maxHeartbeats 8000000 in
theorem two_refbg (n : Nat) (z1 : Int) (hz1 : z1 < 1 ∨ 32 < z1 ∨ 32 < n) (s2 : Nat) (hz2 : 1 ≤ s2 ∧ s2 ≤ 32) (key : List Int) (hkb : Byt key) (hkn : key.length = n) (a : Option Addr) (cap : Nat) (ms : Nat) (sa : Option Addr) (caps : Nat) (W : World) (q : Nat) (hq : W.heap.size = q) (hk : ∀ bx, Src q W bx (.slice a n cap) key) (hm : ms ≤ 400) (hnb : n ≤ 131072) (hB : Beg W) (hE : ∃ a, W.cell? ⟨0, 0, none⟩ = some (.iface 120 (.pointer (some a)))) :
    Calls Tryd.prog 6 #[.int .i64 z1, .int .i64 (s2 : Int), .slice a n cap, .slice sa ms caps] W fun e w' => e = .returned (.bool true) ∧ Below q W w' := by
  have e0 := ev_nil' W
  rw [hq] at e0
  have E0 : Hid (Ev q W (.pointer none) [] [] W) := e0
  have HK : Hid ((∀ bx, Src q W bx (.slice a n cap) key) ∧ key.length = n ∧ Byt key) := ⟨hk, hkn, hkb⟩
  have HBE : Hid (Beg W ∧ 2 ≤ q ∧ ∃ a, W.cell? ⟨0, 0, none⟩ = some (.iface 120 (.pointer (some a)))) := ⟨hB, by rw [← hq]; exact hB.2, hE⟩
  obtain ⟨ea, hea⟩ := HBE.out.2.2
  have HEA : Hid (W.cell? ⟨0, 0, none⟩ = some (.iface 120 (.pointer (some ea)))) := hea
  have HZ1 : Hid (z1 < 1 ∨ 32 < z1 ∨ 32 < n) := hz1
  have HZ2 : Hid (1 ≤ s2 ∧ s2 ≤ 32) := hz2
  have b0 : ¬ (400 : Int) < (ms : Int) := by omega
  have b1 : ¬ (131072 : Int) < (n : Int) := by omega
  have CD1 : Hid _ := dnew_b E0.out HBE.out.2.1 HEA.out z1 a n cap HZ1.out
  clear hk hkn hkb e0 hq hB hE hea hz1 hz2 hm hnb 
  go_enter Tryd.func6, Tryd.ntmps6
  go_upto_region 4 with (first | (go_at_call 11; refine Calls.mono CD1.out ?_; rintro e w1 ⟨rfl, h1⟩; have CD2 : Hid _ := dnew_t h1 HBE.out.1 HBE.out.2.1 s2 HZ2.out (.slice none 0 0) [] (src_nil _ _ _) (by simp) (fun x hx => nomatch hx); clear h1 CD1))
  clear b0 b1
  go_upto_region 5 with (first | (go_at_call 11; refine Calls.mono CD2.out ?_; rintro e w2 ⟨g2, rfl, h2, _⟩; have CS1 : Hid _ := rsum_bad w2 z1 a n cap (.slice none 0 0) HZ1.out; have H2 : Hid _ := h2; clear h2 CD2))
  go_upto_region 6 with (first | (go_at_call 12; refine Calls.mono CS1.out ?_; rintro e w3 ⟨rfl, hV⟩; have h3 : Ev q W (.pointer none) [] [] w3 := (by rw [hV]; exact H2.out); clear hV; have CS2 : Hid _ := rsum_w (W := w3) HZ2.out (key := []) (D := []) (by simp) (fun x hx => nomatch hx) (fun x hx => nomatch hx) (by simp) (src_nil _ _ []) (src_nil _ _ []); have H3 : Hid _ := h3; clear h3 CS1 H2))
  go_upto_region 7 with (first | (go_at_call 12; refine Calls.mono CS2.out ?_; rintro e w4 ⟨v2, rfl, hb4⟩; have h4 := H3.out.below hb4; have CC1 : Hid (Calls Tryd.prog 13 #[(.iface 120 (.pointer (some ea)))] w4 fun e w' => e = .returned (.int .i64 1) ∧ w' = w4) := code_arg w4 ea (err_at h4.old HBE.out.2.1 HEA.out); have CC2 : Hid (Calls Tryd.prog 13 #[.nilIface] w4 fun e w' => e = .returned (.int .i64 0) ∧ w' = w4) := code_nil w4; have CK : Hid (Calls Tryd.prog 18 #[] w4 fun e w' => e = .returned (.bool true) ∧ Below q W w') := known_at h4.old HBE.out.1 HBE.out.2.1 HBE.out.2.2 h4.le; clear h4 CS2 H3))
  go_wp2_with (first | (go_at_call 13; first | (refine Calls.mono CC1.out ?_; rintro e w5 ⟨rfl, hV⟩; obtain rfl := hV) | (refine Calls.mono CC2.out ?_; rintro e w5 ⟨rfl, hV⟩; obtain rfl := hV)) | (go_at_call 18; refine Calls.mono CK.out ?_; rintro e w9 ⟨rfl, h9⟩; have H9 : Hid _ := h9; clear h9 CK))
  go_ret
  exact ⟨rfl, H9.out⟩
set_option maxRecDepth 100000 in
set_option maxHeartbeats 8000000 in
theorem two_refgb (n s1 : Nat) (hz1 : 1 ≤ s1 ∧ s1 ≤ 32) (hn1 : n ≤ 32) (z2 : Int) (hz2 : z2 < 1 ∨ 32 < z2 ∨ 32 < (0 : Nat)) (key : List Int) (hkb : Byt key) (hkn : key.length = n) (a : Option Addr) (cap : Nat) (ms : Nat) (sa : Option Addr) (caps : Nat) (W : World) (q : Nat) (hq : W.heap.size = q) (hk : ∀ bx, Src q W bx (.slice a n cap) key) (hm : ms ≤ 400) (hnb : n ≤ 131072) (hB : Beg W) (hE : ∃ a, W.cell? ⟨0, 0, none⟩ = some (.iface 120 (.pointer (some a)))) :
    Calls Tryd.prog 6 #[.int .i64 (s1 : Int), .int .i64 z2, .slice a n cap, .slice sa ms caps] W fun e w' => e = .returned (.bool true) ∧ Below q W w' := by
  have e0 := ev_nil' W
  rw [hq] at e0
  have E0 : Hid (Ev q W (.pointer none) [] [] W) := e0
  have HK : Hid ((∀ bx, Src q W bx (.slice a n cap) key) ∧ key.length = n ∧ Byt key) := ⟨hk, hkn, hkb⟩
  have HBE : Hid (Beg W ∧ 2 ≤ q ∧ ∃ a, W.cell? ⟨0, 0, none⟩ = some (.iface 120 (.pointer (some a)))) := ⟨hB, by rw [← hq]; exact hB.2, hE⟩
  obtain ⟨ea, hea⟩ := HBE.out.2.2
  have HEA : Hid (W.cell? ⟨0, 0, none⟩ = some (.iface 120 (.pointer (some ea)))) := hea
  have HZ1 : Hid ((1 ≤ s1 ∧ s1 ≤ 32) ∧ key.length ≤ 32) := ⟨hz1, by rw [hkn]; exact hn1⟩
  have HZ2 : Hid (z2 < 1 ∨ 32 < z2 ∨ 32 < (0 : Nat)) := hz2
  have b0 : ¬ (400 : Int) < (ms : Int) := by omega
  have b1 : ¬ (131072 : Int) < (n : Int) := by omega
  have CD1 : Hid _ := dnew_t E0.out HBE.out.1 HBE.out.2.1 s1 HZ1.out.1 _ key (HK.out.1 []) HZ1.out.2 HK.out.2.2
  clear hk hkn hkb e0 hq hB hE hea hz1 hz2 hm hnb hn1
  go_enter Tryd.func6, Tryd.ntmps6
  go_upto_region 4 with (first | (go_at_call 11; refine Calls.mono CD1.out ?_; rintro e w1 ⟨g1, rfl, h1, _⟩; have CD2 : Hid _ := dnew_b h1 HBE.out.2.1 HEA.out z2 none 0 0 HZ2.out; clear h1 CD1))
  clear b0 b1
  go_upto_region 5 with (first | (go_at_call 11; refine Calls.mono CD2.out ?_; rintro e w2 ⟨rfl, h2⟩; have CS1 : Hid _ := rsum_w (W := w2) (D := []) HZ1.out.1 HZ1.out.2 HK.out.2.2 (fun x hx => nomatch hx) (by simp) ((HK.out.1 []).at_ h2 []) (src_nil _ _ []); have H2 : Hid _ := h2; clear h2 CD2))
  go_upto_region 6 with (first | (go_at_call 12; refine Calls.mono CS1.out ?_; rintro e w3 ⟨v1, rfl, hb3⟩; have h3 := H2.out.below hb3; have CS2 : Hid _ := rsum_bad w3 z2 none 0 0 (.slice none 0 0) HZ2.out; have H3 : Hid _ := h3; clear h3 CS1 H2))
  go_upto_region 7 with (first | (go_at_call 12; refine Calls.mono CS2.out ?_; rintro e w4 ⟨rfl, hV⟩; have h4 : Ev q W (.pointer none) [] [] w4 := (by rw [hV]; exact H3.out); clear hV; have CC1 : Hid (Calls Tryd.prog 13 #[.nilIface] w4 fun e w' => e = .returned (.int .i64 0) ∧ w' = w4) := code_nil w4; have CC2 : Hid (Calls Tryd.prog 13 #[(.iface 120 (.pointer (some ea)))] w4 fun e w' => e = .returned (.int .i64 1) ∧ w' = w4) := code_arg w4 ea (err_at h4.old HBE.out.2.1 HEA.out); have CK : Hid (Calls Tryd.prog 18 #[] w4 fun e w' => e = .returned (.bool true) ∧ Below q W w') := known_at h4.old HBE.out.1 HBE.out.2.1 HBE.out.2.2 h4.le; clear h4 CS2 H3))
  go_wp2_with (first | (go_at_call 13; first | (refine Calls.mono CC1.out ?_; rintro e w5 ⟨rfl, hV⟩; obtain rfl := hV) | (refine Calls.mono CC2.out ?_; rintro e w5 ⟨rfl, hV⟩; obtain rfl := hV)) | (go_at_call 18; refine Calls.mono CK.out ?_; rintro e w9 ⟨rfl, h9⟩; have H9 : Hid _ := h9; clear h9 CK))
  go_ret
  exact ⟨rfl, H9.out⟩
end Go.Proofs.YtfkbgodfcnmepaaDoor
namespace Go.Proofs.YtfkbgodfcnmepaaDoor
set_option linter.unusedSimpArgs false
set_option linter.unusedVariables false
open Go.ChangeShapes Go.WideShapes Go.ChangeAt Go.RowKit Go.Pin Go.Str Go.Dig
theorem wl_pos (h n : Nat) (hh : h ≤ 64) : 0 < (wl h n).length := by
  by_cases hn : n = 0
  · subst hn; rw [wl_zero]; simp
  · by_cases h64 : h = 64
    · subst h64; rw [wl_full (by omega) rfl]; simp
    · rw [wl_room (by omega) (by omega) rfl]; simp
theorem hl_step (x m : Nat) : hl (hl x + m) = hl (x + m) := by unfold hl nbl; omega
/-- what one round finds -/
def PL (q : Nat) (W : World) (R g s : Nat) (key : List Int) (fk i ms : Nat) (va ve vh vd : Value) (w' : World) : Prop :=
  ∃ (A dk : List Int) (p : Nat) (L : List (Int × Int)), i ≤ ms ∧ (A.length ≤ 131072 ∧ Byt A) ∧ vh = .int .i64 ((hl (fk + A.length) : Nat) : Int) ∧ vd = .slice (some ⟨p, 0, none⟩) dk.length dk.length ∧ (dk.length ≤ 400000 ∧ L.length ≤ 12 * i + A.length + 4) ∧ PS q W R g p s key A A dk va ve L L [] w'
/-- the key's copy, written over -/
def TK (q : Nat) (W : World) (R g s : Nat) (key : List Int) (vt : Value) (n : Nat) (w' : World) : Prop :=
  ∃ b lt, HSb (fil key ++ []) b ∧ ((lt = [] ∧ n = 0) ∨ ∃ gt cap cur, vt = .slice (some ⟨gt, 0, none⟩) n cap ∧ lt = [(gt, .cells cur 5)] ∧ n ≤ cur.size ∧ (∀ j, j < n → ∃ z, cur[j]? = some (.int .u8 z)) ∧ gt ≠ g) ∧ Ev q W (.pointer (some ⟨R, 0, none⟩)) (nlg key) ((g, ho R s key [] b) :: lt) w'
theorem lst_zero (g : Nat) : Lst 5 1 (.slice (some ⟨g, 0, none⟩) 0 0) 0 (([] : List Int).map (Value.int .u8)) [(g, .cells #[] 5)] := ⟨rfl, .inr ⟨g, 0, #[], rfl, rfl, Nat.le_refl _, by decide, rfl, rfl⟩⟩
theorem TK.start {q : Nat} {W : World} {R g s : Nat} {key : List Int} {vt : Value} {n : Nat} {w' : World} {lb : List (Nat × Obj)} {o : Obj} (hn : key.length = n) (hL : Lst 5 1 vt n (key.map (Value.int .u8)) lb) (hne : ∀ p ∈ lb, p.1 ≠ g) (hSt : HSt (.pointer (some ⟨R, 0, none⟩)) s (h0 s key.length) (fil key) o) (he : Ev q W (.pointer (some ⟨R, 0, none⟩)) ([] ++ nlg key) ((g, o) :: lb) w') : TK q W R g s key vt n w' := by
  obtain ⟨b, k1, rfl⟩ := hSt.blk
  rw [List.nil_append] at he
  have e : hst (.pointer (some ⟨R, 0, none⟩)) s (h0 s key.length) (fil key) b = ho R s key [] b := by unfold ho; rw [List.append_nil]
  rw [e] at he
  refine ⟨b, lb, by rw [List.append_nil]; exact k1, ?_, he⟩
  rcases hL.2 with ⟨_, h2, h3⟩ | ⟨gt, cap, cur, h1, rfl, h3, h4, h5, h6⟩
  · exact .inl ⟨h3, h2⟩
  · refine .inr ⟨gt, cap, cur, h1, rfl, by omega, fun j hj => ?_, hne _ mem0⟩
    rw [Nat.mul_one] at h6
    have hk : (cur.toList.take n)[j]? = some (.int .u8 (key.getD j 0)) := by
      rw [h6, List.getElem?_map, List.getElem?_eq_getElem (by omega), List.getD_eq_getElem?_getD, List.getElem?_eq_getElem (by omega)]
      rfl
    rw [List.getElem?_take_of_lt hj] at hk
    exact ⟨_, by simpa using hk⟩
section
variable {q : Nat} {W : World} {R g s : Nat} {key : List Int} {vt : Value} {n : Nat} {w' w2 : World}
theorem TK.hid (h : TK q W R g s key vt n w') : Hid (TK q W R g s key vt n w') := h
theorem TK.old (h : TK q W R g s key vt n w') : Below q W w' := by obtain ⟨b, lt, _, _, h⟩ := h; exact h.old
theorem TK.le (h : TK q W R g s key vt n w') : q ≤ w'.heap.size := by obtain ⟨b, lt, _, _, h⟩ := h; exact h.le
theorem TK.at_ (h : TK q W R g s key vt n w') {v : Value} {D : List Int} (hS : Src q W [] v D) : ∀ cx, Src w'.heap.size w' cx v D := by
  obtain ⟨b, lt, _, _, h⟩ := h
  exact (hS.sub (by simp)).at_ h
theorem TK.below (h : TK q W R g s key vt n w') (hb : Below w'.heap.size w' w2) : TK q W R g s key vt n w2 := by
  obtain ⟨b, lt, h1, h2, h3⟩ := h
  exact ⟨b, lt, h1, h2, h3.below hb⟩
theorem TK.put (h : TK q W R g s key vt n w') {j : Nat} (hj : j < n) : ∃ gt cap, vt = .slice (some ⟨gt, 0, none⟩) n cap ∧ (∃ z, w'.cell? ⟨gt, j, none⟩ = some (.int .u8 z)) ∧ w'.frozen? ⟨gt, j, none⟩ = false ∧ TK q W R g s key vt n (w'.setCell ⟨gt, j, none⟩ (.int .u8 153)) := by
  obtain ⟨b, lt, h1, h2, h3⟩ := h
  rcases h2 with ⟨_, e⟩ | ⟨gt, cap, cur, e1, rfl, e3, e4, e5⟩
  · omega
  · have hr := h3.row mem1
    obtain ⟨z, hz⟩ := e4 j hj
    refine ⟨gt, cap, e1, ⟨z, by rw [cell_of_row w' _ _ _ _ _ hr]; exact hz⟩, frozen_of_row w' _ _ _ _ hr, b, _, h1, .inr ⟨gt, cap, cur.setIfInBounds j (.int .u8 153), e1, rfl, by simpa using e3, fun k hk => ?_, e5⟩, ?_⟩
    · rw [Array.getElem?_setIfInBounds]
      split
      · rw [if_pos (by omega)]; exact ⟨_, rfl⟩
      · exact e4 k hk
    · refine (h3.flip.set rfl (fun p hp => by rw [List.mem_singleton.1 hp]; exact fun e => e5 e.symm) ((Grow.refl (fun k => k = gt) w').setCell (p := ⟨gt, j, none⟩) (.inl rfl) _) ?_).flip
      rw [heap_setCell_same w' _ _ _ _ _ hr]
theorem TK.start' (h : TK q W R g s key vt n w') {ve : Value} (he : Evl w'.heap.size w' ve (nlg key) w2) : PL q W R g s key (fil key).length 0 0 (.slice none 0 0) ve (.int .i64 ((hl (fil key).length : Nat) : Int)) (.slice (some ⟨w2.heap.size, 0, none⟩) 64 64) (w2.alloc (.cells (VI .u8 (List.replicate 64 0)) 5)) := by
  obtain ⟨b, lt, h1, h2, h3⟩ := h
  have h4 : Ev q W (.pointer (some ⟨R, 0, none⟩)) (nlg key) [(g, ho R s key [] b)] w' := h3.sub (fun p hp => by rw [List.mem_singleton.1 hp]; exact mem0)
  obtain ⟨le, k1, k2⟩ := lst_of he.own
  obtain ⟨hj, hd⟩ := h4.join (l' := []) (bx' := le) ⟨he.old, he.le, fun p hp => (k2 p hp).1, fun p hp => (k2 p hp).2.1, .inl rfl⟩
  have hn := hj.new (.cells (VI .u8 (List.replicate 64 0)) 5)
  refine ⟨[], List.replicate 64 0, w2.heap.size, nlg key, Nat.le_refl _, ⟨by decide, fun x hx => nomatch hx⟩, rfl, by rw [List.length_replicate], ⟨by rw [List.length_replicate]; decide, by simp [nlg]⟩, b, h1, [], le, lst_nil _ _, k1, ?_, ?_⟩
  · refine hn.sub (fun r hr => ?_)
    simp only [List.nil_append, List.mem_append, List.mem_cons, List.not_mem_nil, or_false] at hr ⊢
    rcases hr with hr | hr | hr
    · exact .inr (.inl hr)
    · exact .inr (.inr hr)
    · exact .inl hr
  · rw [List.nil_append, List.map_append]
    have hg := hj.lt (g := g) (List.mem_append_right _ mem0)
    refine List.nodup_append.2 ⟨k1.nd, ?_, fun x hx y hy e => ?_⟩
    · simp only [List.map_cons, List.map_nil, List.nodup_cons, List.mem_singleton, List.not_mem_nil, not_false_eq_true, List.nodup_nil, and_true]
      omega
    · obtain ⟨r, hr, rfl⟩ := List.mem_map.1 hx
      simp only [List.map_cons, List.map_nil, List.mem_cons, List.not_mem_nil, or_false] at hy
      rcases hy with rfl | rfl
      · exact hd r hr _ mem0 e.symm
      · have := heap_lt (hj.at' r (List.mem_append_left _ hr))
        omega
end
theorem PL.le {q : Nat} {W : World} {R g s : Nat} {key : List Int} {fk i ms : Nat} {va ve vh vd : Value} {w' : World} (h : PL q W R g s key fk 0 0 va ve vh vd w') : PL q W R g s key fk 0 ms va ve vh vd w' := by
  obtain ⟨A, dk, p, L, h1, h2⟩ := h
  exact ⟨A, dk, p, L, Nat.zero_le _, h2⟩
set_option maxRecDepth 100000 in
theorem first_any (k : Nat) (w : World) : Calls Tryd.prog 19 #[.int .i64 (k : Int)] w fun e w' => e = .returned (.int .i64 ((if k = 0 then 0 else 64 : Nat) : Int)) ∧ w' = w := by
  by_cases h : k = 0
  · have b : ¬ (0 : Int) < (k : Int) := by omega
    rw [if_pos h]
    clear h
    go_enter Tryd.func19, Tryd.ntmps19
    go_wp2
    go_ret
    exact ⟨rfl, rfl⟩
  · have b : (0 : Int) < (k : Int) := by omega
    rw [if_neg h]
    clear h
    go_enter Tryd.func19, Tryd.ntmps19
    go_wp2
    go_ret
    exact ⟨rfl, rfl⟩
end Go.Proofs.YtfkbgodfcnmepaaDoor
namespace Go.Proofs.YtfkbgodfcnmepaaDoor
set_option linter.unusedSimpArgs false
set_option linter.unusedVariables false
open Go.ChangeShapes Go.WideShapes Go.ChangeAt Go.RowKit Go.Pin Go.Str Go.Dig
theorem enew_nil (w : World) : Calls Tryd.prog 17 #[.int .i64 32, .int .i64 0] w fun e w' => ∃ u, e = .returned u ∧ Evl w.heap.size w u (nlg []) w' := enew_any 32 0 w
theorem nlg_nil_len : (nlg []).length = 4 := rfl
set_option maxRecDepth 100000 in
set_option maxHeartbeats 8000000 in
theorem ehash_any (w : World) (ns : List Nat) (a : Option Addr) (cap n : Nat) (hn : ns.length = n) (hR : RdN w a ns) (hl : n ≤ 1000) (hs : ns.sum ≤ 131072) :
    Calls Tryd.prog 29 #[.slice a n cap] w fun e w' => ∃ u, e = .returned u ∧ Evl w.heap.size w u (olg ns) w' := by
  obtain ⟨B, hB⟩ : ∃ B, w.heap.size = B := ⟨_, rfl⟩
  have HN : Hid (ns.length = n ∧ n ≤ 1000 ∧ ns.sum ≤ 131072 ∧ (∀ i, i < n → ∃ b o, a = some ⟨b, o, none⟩ ∧ ∀ Y, Below B w Y → Y.cell? ⟨b, o + i, none⟩ = some (.int .i64 ((ns.getD i 0 : Nat) : Int)))) := ⟨hn, hl, hs, fun i hi => by
    obtain ⟨b, o, h1, h2⟩ := hR i (by rw [hn]; exact hi)
    refine ⟨b, o, h1, fun Y hY => ?_⟩
    rw [World.cell?_of_block (a := ⟨b, o + i, none⟩) (hY.block b (by rw [← hB]; exact World.block_lt_of_cell? w _ h2))]
    exact h2⟩
  have CN := enew_nil w
  rw [hB] at CN ⊢
  have CN : Hid _ := CN
  obtain ⟨OL, hOL⟩ : ∃ OL, olg ns = OL := ⟨_, rfl⟩
  rw [hOL]
  have HOL : Hid (olg ns = OL) := hOL
  clear hB hn hR hl hs hOL
  go_enter Tryd.func29, Tryd.ntmps29
  go_upto_region 4 with (first | (go_at_call 17; refine Calls.mono CN.out ?_; rintro e w1 ⟨u1, rfl, h1⟩; have H0 : Hid _ := h1; clear h1 CN))
  go_loopw [3, 4, 5] (fun v vh vi w' => ∃ i : Nat, i ≤ n ∧ vi = .int .i64 (i : Int) ∧ vh = .int .i64 ((hl (ns.take i).sum : Nat) : Int) ∧ Evl B w v (nlg [] ++ plog 0 0 (ns.take i)) w') (fun _ _ vi _ => n - (intOf vi).toNat)
  case atStart => exact ⟨0, Nat.zero_le _, rfl, by rw [List.take_zero]; rfl, H0.out⟩
  case round =>
    clear H0
    obtain ⟨i, hi, rfl, rfl, hp⟩ := hrel
    obtain ⟨h, hh⟩ : ∃ h, hl (ns.take i).sum = h := ⟨_, rfl⟩
    have hts := takeN_sum ns i
    have hpl := plog_len (ns.take i) 0 0
    have HP : Hid (Evl B w u3 (nlg [] ++ plog 0 0 (ns.take i)) wr) := hp
    have HL : Hid ((nlg [] ++ plog 0 0 (ns.take i)).length + 20 + ns.getD i 0 ≤ 300000 ∧ hl (ns.take i).sum = h ∧ h ≤ 64 ∧ ns.getD i 0 ≤ 131072) := ⟨by
      have := HN.out.2.1
      have := HN.out.2.2.1
      have hlt : (ns.take i).length ≤ n := by rw [List.length_take]; omega
      rw [List.length_append, nlg_nil_len]
      omega, hh, by rw [← hh]; exact hl_le _, by have := HN.out.2.2.1; omega⟩
    rw [hh]
    clear hp hts hpl
    by_cases hlt : i < n
    · have b1 : (i : Int) < (n : Int) := by omega
      obtain ⟨b, o, rfl, hcc⟩ := HN.out.2.2.2 i hlt
      have HAP : Hid _ := fun ty => HP.out.two 1 1 2 (i : Int) (by have := HL.out.1; omega) ty
      obtain ⟨m, hm⟩ : ∃ m, ns.getD i 0 = m := ⟨_, rfl⟩
      rw [hm] at hcc
      have HCC : Hid (∀ Y, Below B w Y → Y.cell? ⟨b, o + i, none⟩ = some (.int .i64 (m : Int))) := hcc
      have HM : Hid (ns.getD i 0 = m ∧ m ≤ 131072 ∧ i < n) := ⟨hm, by rw [← hm]; exact HL.out.2.2.2, hlt⟩
      clear hcc hm hi hh
      go_upto_region 7 with (first | (go_at_call 36; refine (rif2 true _).mono ?_; rintro e wi ⟨rfl, hw⟩; obtain rfl := hw) | (go_at_call 37; refine (rat2 (i : Int) _).mono ?_; rintro e wi ⟨rfl, hw⟩; obtain rfl := hw) | (at_builtin; refine wpList_app _ rfl (.tmp 15) (.tmp 19) 36 36 rfl _ _ rfl rfl HAP.out ?_; intro av aw ah; have aH : Hid _ := ah; clear ah HAP))
      have ca := HCC.out aw aH.out.old
      have CW : Hid _ := ewrite_any h m HL.out.2.2.1 (by have := HM.out.2.1; omega) aw
      go_upto_region 8 with (first | (go_at_call 24; refine Calls.mono CW.out ?_; rintro e bw ⟨ub, rfl, bh⟩; have HAQ : Hid _ := fun ty => aH.out.appL bh.old bh.own (wl_pos _ _ HL.out.2.2.1) (by rw [two_len]; have := wl_short h m HL.out.2.2.1; have := HL.out.1; rw [HM.out.1] at this; omega) ty; clear bh CW))
      go_wp2_with (first | (at_builtin; refine wpList_app _ rfl (.tmp 30) (.tmp 31) 36 36 rfl _ _ rfl rfl HAQ.out ?_; intro cv cw ch; have cH : Hid _ := ch; clear ch HAQ))
      go_roundw
      case rel =>
        have hsn := takeN_snoc ns (i := i) (by rw [HN.out.1]; exact HM.out.2.2)
        refine ⟨i + 1, HM.out.2.2, by rw [wrapS HM.out.2.2 (by have := HN.out.2.1; unfold maxLen; omega)]; exact congrArg (Value.int .i64) (by omega), ?_, ?_⟩
        · rw [hsn, List.sum_append, HM.out.1, ← HL.out.2.1, hl_step]
          simp
        · have h1 := cH.out
          rw [hsn, plog_snoc]
          have e2 : (ns.take i).length = i := by rw [List.length_take, HN.out.1]; have := HM.out.2.2; omega
          rw [e2, Nat.zero_add, Nat.zero_add, HL.out.2.1, HM.out.1]
          simp only [List.append_assoc, List.cons_append, List.nil_append] at h1 ⊢
          exact h1
      case measure => exact measS HM.out.2.2 (by have := HN.out.2.1; unfold maxLen; omega)
    · have b1 : ¬ (i : Int) < (n : Int) := by omega
      have HAP : Hid _ := fun ty => HP.out.one 1 0 (by have := HL.out.1; omega) ty
      have et : ns.take i = ns := List.take_of_length_le (by rw [HN.out.1]; omega)
      have HE : Hid (OL = nlg [] ++ plog 0 0 (ns.take i) ++ [(1, 0)] ++ [(2, (h : Int)), (3, 31)]) := by
        have : OL = nlg [] ++ plog 0 0 (ns.take i) ++ [(1, 0)] ++ [(2, (h : Int)), (3, 31)] := by
          rw [← HOL.out, ← HL.out.2.1, et]
          unfold olg
          simp
        exact this
      clear hi hh et
      go_upto_region 11 with (first | (go_at_call 36; refine (rif2 false _).mono ?_; rintro e wi ⟨rfl, hw⟩; obtain rfl := hw) | (at_builtin; refine wpList_app _ rfl (.tmp 34) (.tmp 36) 36 36 rfl _ _ rfl rfl HAP.out ?_; intro av aw ah; have aH : Hid _ := ah; clear ah HAP))
      have CT : Hid _ := esum_any h aw
      go_wp2_with (first | (go_at_call 20; refine Calls.mono CT.out ?_; rintro e bw ⟨ub, rfl, bh⟩; have HAQ : Hid _ := fun ty => aH.out.appL bh.old bh.own (by simp) (by simp only [List.length_append, List.length_cons, List.length_nil]; have := HL.out.1; rw [List.length_append] at this; omega) ty; clear bh CT) | (at_builtin; refine wpList_app _ rfl (.tmp 38) (.tmp 40) 36 36 rfl _ _ rfl rfl HAQ.out ?_; intro cv cw ch; have cH : Hid _ := ch; clear ch HAQ))
      go_ret
      refine ⟨cv, rfl, ?_⟩
      rw [HE.out]
      exact cH.out
theorem set_app_rep (R : List Int) (i : Nat) (hi : i < R.length) (hR : R.length = 32) : (R.take i ++ List.replicate (32 - i) (0 : Int)).set i (R.getD i 0) = R.take (i + 1) ++ List.replicate (32 - (i + 1)) 0 := by
  have hl : (R.take i).length = i := by rw [List.length_take]; omega
  have e : 32 - i = (32 - (i + 1)) + 1 := by omega
  rw [List.set_append_right _ _ (by omega), hl, Nat.sub_self, e, List.replicate_succ, List.set_cons_zero, List.take_add_one, List.getElem?_eq_getElem hi, List.getD_eq_getElem?_getD, List.getElem?_eq_getElem hi]
  simp only [Option.getD_some, Option.toList_some, List.append_assoc, List.cons_append, List.nil_append]
end Go.Proofs.YtfkbgodfcnmepaaDoor
namespace Go.Proofs.YtfkbgodfcnmepaaDoor
set_option linter.unusedSimpArgs false
set_option linter.unusedVariables false
open Go.ChangeShapes Go.WideShapes Go.ChangeAt Go.RowKit Go.Pin Go.Str Go.Dig
abbrev kz (L : List Int) : Obj := .cells (VI .u8 L) 54
def z32 : List Int := List.replicate 32 0
set_option maxRecDepth 100000 in
set_option maxHeartbeats 8000000 in
theorem rhash_any (W : World) (D : List Int) (hDb : Byt D) (hDl : D.length ≤ 200000) (dv : Value) (hd : Src W.heap.size W [] dv D) :
    Calls Tryd.prog 27 #[dv] W fun e w' => e = .returned (.agg (VI .u8 (dig 32 [] D))) ∧ Below W.heap.size W w' := by
  obtain ⟨q, hq⟩ : ∃ q, W.heap.size = q := ⟨_, rfl⟩
  have e1 := ((ev_nil' W).new (kz z32)).new (kz z32)
  simp only [size_alloc] at e1
  rw [hq] at hd e1 ⊢
  obtain ⟨W2, hW2⟩ : ∃ V, (W.alloc (kz z32)).alloc (kz z32) = V := ⟨_, rfl⟩
  rw [hW2] at e1
  obtain ⟨da, dc, rfl, _, _⟩ := id hd
  obtain ⟨dn, hdn⟩ : ∃ n, D.length = n := ⟨_, rfl⟩
  rw [hdn] at hd hDl ⊢
  have CS : Hid _ := rsum_any W2 32 (by decide) [] D 0 dn rfl hdn (by decide) (fun x hx => nomatch hx) hDb hDl none da 0 dc (src_nil _ _ _) ((hd.sub (fun p hp => nomatch hp)).at_ e1 [])
  obtain ⟨R, hR⟩ : ∃ R, dig 32 [] D = R := ⟨_, rfl⟩
  have hRl : R.length = 32 := by rw [← hR, dig_len]
  rw [hR] at CS ⊢
  have E1 : Hid (Ev q W (.pointer none) [] [(q + 1, kz z32), (q, kz z32)] W2) := e1
  have HR : Hid (R.length = 32) := hRl
  have hW2' : (W.alloc (.cells #[.int .u8 0, .int .u8 0, .int .u8 0, .int .u8 0, .int .u8 0, .int .u8 0, .int .u8 0, .int .u8 0, .int .u8 0, .int .u8 0, .int .u8 0, .int .u8 0, .int .u8 0, .int .u8 0, .int .u8 0, .int .u8 0, .int .u8 0, .int .u8 0, .int .u8 0, .int .u8 0, .int .u8 0, .int .u8 0, .int .u8 0, .int .u8 0, .int .u8 0, .int .u8 0, .int .u8 0, .int .u8 0, .int .u8 0, .int .u8 0, .int .u8 0, .int .u8 0] 54)).alloc (.cells #[.int .u8 0, .int .u8 0, .int .u8 0, .int .u8 0, .int .u8 0, .int .u8 0, .int .u8 0, .int .u8 0, .int .u8 0, .int .u8 0, .int .u8 0, .int .u8 0, .int .u8 0, .int .u8 0, .int .u8 0, .int .u8 0, .int .u8 0, .int .u8 0, .int .u8 0, .int .u8 0, .int .u8 0, .int .u8 0, .int .u8 0, .int .u8 0, .int .u8 0, .int .u8 0, .int .u8 0, .int .u8 0, .int .u8 0, .int .u8 0, .int .u8 0, .int .u8 0] 54) = W2 := hW2
  clear e1 hd hR hRl hDl hDb hdn hW2
  go_enter Tryd.func27, Tryd.ntmps27
  go_upto_region 4 with (first | (go_at_call 12; refine Calls.mono CS.out ?_; rintro e w3 ⟨v, rfl, lb, k1, k2, k3⟩; rw [List.append_nil] at k2; have H3 : Hid (Ev q W (.pointer none) [] ((q + 1, kz z32) :: (q, kz z32) :: lb) w3) := ((E1.out.join k2).1.sub (fun p hp => by simp only [List.mem_cons, List.mem_append, List.not_mem_nil, or_false] at hp ⊢; rcases hp with hp | hp | hp; (exact .inr (.inl hp)); (exact .inr (.inr hp)); (exact .inl hp))); have HS : Hid (Lst 5 1 v 32 (R.map (Value.int .u8)) lb) := k1; have HNE : Hid (∀ p ∈ lb, p.1 ≠ q + 1 ∧ p.1 ≠ q) := (fun p hp => ⟨fun e => (E1.out.join k2).2 p hp _ mem0 e.symm, fun e => (E1.out.join k2).2 p hp _ mem1 e.symm⟩); clear k1 k2 k3 CS))
  clear hW2' hq E1
  obtain ⟨av, cv, rfl⟩ := HS.out.slice'
  have HSR : Hid (Src q W lb (.slice av 32 cv) R) := by
    have : Src q W lb (.slice av 32 cv) R := Lst.src (A := R) (by rw [HR.out]; exact HS.out) (fun p hp => hp)
    exact this
  clear HS
  go_loopw [6] (fun vi w' => ∃ i : Nat, i ≤ 32 ∧ vi = .int .i64 (i : Int) ∧ Ev q W (.pointer none) [] ((q + 1, kz (R.take i ++ List.replicate (32 - i) 0)) :: (q, kz z32) :: lb) w') (fun vi _ => 32 - (intOf vi).toNat)
  case atStart => exact ⟨0, by decide, rfl, H3.out⟩
  case round =>
    clear H3
    obtain ⟨i, hi, rfl, he⟩ := hrel
    by_cases hlt : i < 32
    · have b1 : (i : Int) < 32 := by omega
      obtain ⟨b, o, rfl, hrg⟩ := HSR.out.range (by decide)
      have hRi : i < R.length := by rw [HR.out]; exact hlt
      have c1 : wr.cell? ⟨b, o + i, none⟩ = some (.int .u8 (R.getD i 0)) := hrg wr he.old (fun p hp => he.at' p (memr2 hp)) i _ (by rw [List.getElem?_map, List.getElem?_eq_getElem hRi, List.getD_eq_getElem?_getD, List.getElem?_eq_getElem hRi]; rfl)
      obtain ⟨c2, f2, h2⟩ := he.setAtH (fun p hp => by
        rcases List.mem_cons.1 hp with rfl | hp
        · show q ≠ q + 1; omega
        · exact (HNE.out p hp).1) i (by rw [List.length_append, List.length_take, List.length_replicate]; omega) (R.getD i 0)
      rw [set_app_rep R i hRi HR.out] at h2
      obtain ⟨x, hx⟩ : ∃ x, R.getD i 0 = x := ⟨_, rfl⟩
      obtain ⟨y, hy⟩ : ∃ y, (R.take i ++ List.replicate (32 - i) (0 : Int)).getD i 0 = y := ⟨_, rfl⟩
      rw [hx] at c1 h2
      rw [hy] at c2
      obtain ⟨W4, hW4⟩ : ∃ V, wr.setCell ⟨q + 1, i, none⟩ (.int .u8 x) = V := ⟨_, rfl⟩
      rw [hW4] at h2
      have H4 : Hid (Ev q W (.pointer none) [] ((q + 1, kz (R.take (i + 1) ++ List.replicate (32 - (i + 1)) 0)) :: (q, kz z32) :: lb) W4) := h2
      clear he h2 hx hy hrg hRi
      go_wp2
      go_roundw
      case rel => exact ⟨i + 1, hlt, by go_num, H4.out⟩
      case measure => simp [intOf]; omega
    · have b1 : ¬ (i : Int) < 32 := by omega
      have ei : i = 32 := by omega
      subst ei
      have e2 : R.take 32 ++ List.replicate (32 - 32) (0 : Int) = R := by rw [List.take_of_length_le (by rw [HR.out]; exact Nat.le_refl _)]; simp
      rw [e2] at he
      have H4 : Hid (Ev q W (.pointer none) [] ((q + 1, kz R) :: (q, kz z32) :: lb) wr) := he
      have HLD : Hid (wr.rangeAt (q + 1) 0 (R.map (Value.int .u8))) := row_range (he.row mem0)
      have HIK : Hid ((Tryd.prog.info? 54).map (·.size) = some R.length) := by
        have : (Tryd.prog.info? 54).map (·.size) = some R.length := by rw [HR.out]; exact infoK
        exact this
      have ht3 := row_there (he.row mem1)
      have h5 := (he.sub (by' := (q, kz z32) :: (q + 1, kz R) :: lb) (fun p hp => by simp only [List.mem_cons] at hp ⊢; rcases hp with hp | hp | hp; (exact .inr (.inl hp)); (exact .inl hp); (exact .inr (.inr hp)))).storeRow (L' := R) (fun p hp => by
        rcases List.mem_cons.1 hp with rfl | hp
        · show q + 1 ≠ q; omega
        · exact (HNE.out p hp).2) (by rw [HR.out]; rfl)
      have HT : Hid (wr.there q 0 R.length) := by
        have : wr.there q 0 R.length := by rw [HR.out]; exact ht3
        exact this
      obtain ⟨W5, hW5⟩ : ∃ V, wr.setCells q 0 (VI .u8 R).toList = V := ⟨_, rfl⟩
      rw [hW5] at h5
      have H5 : Hid (Ev q W (.pointer none) [] ((q, kz R) :: (q + 1, kz R) :: lb) W5) := h5
      clear he ht3 h5 e2 hi
      go_wp2_with (with_reducible refine at_list ?_; first | (refine load_midI rfl 54 (.tmp 3) rfl (q + 1) 0 rfl .u8 R _ HLD.out Tryd.underlying54 rfl HIK.out ?_) | (refine store_rowI rfl 54 (.tmp 2) (.tmp 28) rfl q .u8 R rfl rfl HT.out HIK.out rfl ?_))
      refine bodyPost_ret (v := .agg (VI .u8 R)) ?_ rfl ⟨rfl, H5.out.old⟩
      exact results_cell_row (P := Tryd.prog) (fn := Tryd.f27) (p := 2) (ty := 54) rfl _ _ q 54 (VI .u8 R) (0, 0) _ rfl (H5.out.row mem0) Tryd.underlying54 rfl (by rw [VI_size, HR.out]; exact infoK)
end Go.Proofs.YtfkbgodfcnmepaaDoor
