import Derived.Test.YtfkbgodfcnmepaaDoorDgK
import Derived.Test.YtfkbgodfcnmepaaDoorDgF
namespace Go.Proofs.YtfkbgodfcnmepaaDoor
set_option linter.unusedSimpArgs false
set_option linter.unusedVariables false
open Go.ChangeShapes Go.WideShapes Go.ChangeAt Go.RowKit Go.Pin Go.Str Go.Dig
theorem scr_at {W : World} {q : Nat} (hq : W.heap.size = q) {a : Option Addr} {S : List Stp} (h : Scr W a S) (hb : ∀ q ∈ S, Byt q.2 ∧ q.2.length ≤ maxLen) (i : Nat) (hi : i < S.length) : ∃ b o u, a = some ⟨b, o, none⟩ ∧ (∀ Y, Below q W Y → Y.cell? ⟨b, o + i * 2, none⟩ = some (.bool (S.getD i (false, [])).1) ∧ Y.cell? ⟨b, o + i * 2 + 1, none⟩ = some u) ∧ (∀ bx, Src q W bx u (S.getD i (false, [])).2) ∧ Byt (S.getD i (false, [])).2 ∧ (S.getD i (false, [])).2.length ≤ maxLen := by
  obtain ⟨b, o, u, h1, h2, h3, h4⟩ := h i hi
  have hm : S.getD i (false, []) ∈ S := by rw [List.getD_eq_getElem?_getD, List.getElem?_eq_getElem hi]; exact List.getElem_mem _
  refine ⟨b, o, u, h1, fun Y hY => ⟨?_, ?_⟩, fun bx => by rw [← hq]; exact h4.src bx, (hb _ hm).1, (hb _ hm).2⟩
  · rw [World.cell?_of_block (a := ⟨b, o + i * 2, none⟩) (hY.block b (by rw [← hq]; exact World.block_lt_of_cell? W _ h2))]
    exact h2
  · rw [World.cell?_of_block (a := ⟨b, o + i * 2 + 1, none⟩) (hY.block b (by rw [← hq]; exact World.block_lt_of_cell? W _ h2))]
    exact h3
theorem wrapL {m : Nat} (h : m ≤ 131072) : wrap64 (131072 - (m : Int)) = ((131072 - m : Nat) : Int) ∧ IntKind.i64.wrap (131072 - (m : Int)) = ((131072 - m : Nat) : Int) := by
  rw [IntWalk.wrap64_in _ ⟨by omega, by omega⟩, IntWalk.i64_in _ ⟨by omega, by omega⟩]
  omega
theorem wrapA {t m : Nat} (h : t + m ≤ 131072) : wrap64 ((t : Int) + (m : Int)) = ((t + m : Nat) : Int) ∧ IntKind.i64.wrap ((t : Int) + (m : Int)) = ((t + m : Nat) : Int) := by
  rw [IntWalk.wrap64_in _ ⟨by omega, by omega⟩, IntWalk.i64_in _ ⟨by omega, by omega⟩]
  omega
/-- the zero Hash, once it has taken A -/
def ZH (q : Nat) (W : World) (A : List Int) (w' : World) : Prop := ∃ blk, HSb A blk ∧ Ev q W (.pointer none) [] [(q, hst (.pointer none) 0 zst A blk)] w'
section
variable {q : Nat} {W w' : World} {A : List Int}
theorem ZH.old (h : ZH q W A w') : Below q W w' := by obtain ⟨b, h1, h2⟩ := h; exact h2.old
theorem ZH.write (h : ZH q W A w') (hB : Beg W) (h2 : 2 ≤ q) {D : List Int} {v : Value} (hD : Byt D) (hs : Src q W [] v D) (hl : A.length + D.length ≤ 200000) : Calls Tryd.prog 23 #[.pointer (some ⟨q, 0, none⟩), v] w' fun e w2 => e = .returned (.tuple #[]) ∧ ZH q W (A ++ D) w2 := by
  obtain ⟨b, h1, he⟩ := h
  refine (dwrite_src h1 he zst_s8 (fun hr => absurd rfl hr) (fun p hp => nomatch hp) hs hD (by omega) hB h2).mono ?_
  rintro e w2 ⟨rfl, b2, h3, h4⟩
  exact ⟨rfl, b2, h3, h4.nilOf []⟩
theorem ZH.sum (h : ZH q W A w') (hB : Beg W) (h2 : 2 ≤ q) (hl : A.length ≤ 200000) : Calls Tryd.prog 22 #[.pointer (some ⟨q, 0, none⟩)] w' fun e w2 => ∃ g2, e = .returned (.slice (some ⟨g2, 0, none⟩) 0 0) ∧ ZH q W A w2 := by
  obtain ⟨b, h1, he⟩ := h
  refine (dsum_any h1 he zst_s8 (by decide) (fun hr => absurd rfl hr) (fun p hp => nomatch hp) (by omega) hB h2).mono ?_
  rintro e w2 ⟨g2, rfl, h3, h4⟩
  exact ⟨g2, rfl, b, h1, h4.tail.nilOf []⟩
end
theorem known_at {q : Nat} {W w : World} (h : Below q W w) (hB : Beg W) (h2 : 2 ≤ q) (hE : ∃ a, W.cell? ⟨0, 0, none⟩ = some (.iface 120 (.pointer (some a)))) (hq : q ≤ w.heap.size) : Calls Tryd.prog 18 #[] w fun e w' => e = .returned (.bool true) ∧ Below q W w' := by
  obtain ⟨a, ha⟩ := hE
  refine (known_any w (hB.below h h2) ⟨a, (World.cell?_of_block (a := ⟨0, 0, none⟩) (h.block 0 (by omega))).trans ha⟩).mono ?_
  rintro e w' ⟨rfl, hb⟩
  exact ⟨rfl, h.trans (hb.mono hq)⟩
theorem ZH.le {q : Nat} {W w' : World} {A : List Int} (h : ZH q W A w') : q ≤ w'.heap.size := by obtain ⟨b, h1, h2⟩ := h; exact h2.le
set_option maxRecDepth 100000 in
set_option maxHeartbeats 16000000 in
theorem nothing_walk (S : List Stp) (a : Option Addr) (cap : Nat) (W : World) (hS : Scr W a S) (hb : ∀ q ∈ S, Byt q.2 ∧ q.2.length ≤ maxLen) (hB : Beg W) (hE : ∃ a, W.cell? ⟨0, 0, none⟩ = some (.iface 120 (.pointer (some a)))) :
    Calls Tryd.prog 7 #[.slice a S.length cap] W fun e w' => e = .returned (.bool true) ∧ Below W.heap.size W w' := by
  have e1 := (ev_nil' W).new (hst (.pointer none) 0 zst [] z64)
  obtain ⟨q, hq⟩ : ∃ q, W.heap.size = q := ⟨_, rfl⟩
  have HSC : Hid (∀ i, i < S.length → ∃ b o u, a = some ⟨b, o, none⟩ ∧ (∀ Y, Below q W Y → Y.cell? ⟨b, o + i * 2, none⟩ = some (.bool (S.getD i (false, [])).1) ∧ Y.cell? ⟨b, o + i * 2 + 1, none⟩ = some u) ∧ (∀ bx, Src q W bx u (S.getD i (false, [])).2) ∧ Byt (S.getD i (false, [])).2 ∧ (S.getD i (false, [])).2.length ≤ maxLen) := fun i hi => scr_at hq hS hb i hi
  obtain ⟨W0, hW0⟩ : ∃ V, W.alloc (hst (.pointer none) 0 zst [] z64) = V := ⟨_, rfl⟩
  rw [hW0, hq] at e1
  rw [← zhash] at hW0
  have HBE : Hid (Beg W ∧ 2 ≤ q ∧ ∃ a, W.cell? ⟨0, 0, none⟩ = some (.iface 120 (.pointer (some a)))) := ⟨hB, by rw [← hq]; exact hB.2, hE⟩
  have E1 : Hid (ZH q W [] W0) := ⟨z64, zhs, e1⟩
  rw [hq]
  obtain ⟨n, hn⟩ : ∃ n, S.length = n := ⟨_, rfl⟩
  rw [hn] at HSC ⊢
  have HB0 : Hid (Below q W W) := Below.refl _ _
  clear e1 hS hb hn hB hE
  by_cases hbig : n ≤ 400
  · have b0 : ¬ (400 : Int) < (n : Int) := by omega
    have b0' : ¬ 400 < n := by omega
    have HB : Hid (n ≤ 400) := hbig
    clear hbig
    go_enter Tryd.func7, Tryd.ntmps7
    go_wp2
    go_loopw [5, 6] (fun vt vi w' => ∃ (i t : Nat) (A : List Int), i ≤ n ∧ vi = .int .i64 (i : Int) ∧ vt = .int .i64 (t : Int) ∧ A.length = t ∧ t ≤ 131072 ∧ ZH q W A w') (fun _ vi _ => n - (intOf vi).toNat)
    case atStart => exact ⟨0, 0, [], Nat.zero_le _, rfl, rfl, rfl, by decide, E1.out⟩
    case round =>
      clear E1 hW0
      obtain ⟨i, t, A, hi, rfl, rfl, ht, htb, has⟩ := hrel
      have HA : Hid (A.length = t ∧ t ≤ 131072) := ⟨ht, htb⟩
      have HAS : Hid (ZH q W A wr) := has
      clear ht has
      by_cases hlt : i < n
      · have b1 : (i : Int) < (n : Int) := by omega
        obtain ⟨b, o, u, rfl, hcc, hsu, hDb, hDm⟩ := HSC.out i hlt
        obtain ⟨D, hD⟩ : ∃ D, (S.getD i (false, [])).2 = D := ⟨_, rfl⟩
        obtain ⟨ask, hask⟩ : ∃ k, (S.getD i (false, [])).1 = k := ⟨_, rfl⟩
        rw [hD] at hsu hDb hDm
        rw [hask] at hcc
        have HCC : Hid _ := hcc
        obtain ⟨c1, c2⟩ := hcc wr HAS.out.old
        obtain ⟨au, cu, rfl, _, _⟩ := id (hsu [])
        obtain ⟨m, hm⟩ : ∃ m, D.length = m := ⟨_, rfl⟩
        have HD : Hid (Byt D ∧ D.length = m ∧ Src q W [] (.slice au m cu) D) := ⟨hDb, hm, by rw [← hm]; exact hsu []⟩
        have HI1 : Hid (i < n ∧ n ≤ 400) := ⟨hlt, HB.out⟩
        rw [hm] at c2
        have HWL : Hid (wrap64 (131072 - (t : Int)) = ((131072 - t : Nat) : Int) ∧ IntKind.i64.wrap (131072 - (t : Int)) = ((131072 - t : Nat) : Int)) := wrapL htb
        obtain ⟨r, hr⟩ : ∃ r, 131072 - t = r := ⟨_, rfl⟩
        rw [hr] at HWL
        clear hcc hsu hDb hDm hD hask hm hi
        by_cases hgt : r < m
        · have b2 : (r : Int) < (m : Int) := by omega
          have HF : Hid (Below q W wr) := HAS.out.old
          obtain ⟨hw, hw'⟩ := HWL.out
          clear htb hr
          go_wp2
          go_ret
          exact ⟨rfl, HF.out⟩
        · have b2 : ¬ (r : Int) < (m : Int) := by omega
          have HMT : Hid (t + m ≤ 131072) := by show t + m ≤ 131072; omega
          have CWN : Hid (Calls Tryd.prog 23 #[.pointer none, .slice au m cu] wr fun e w' => e = .returned (.tuple #[]) ∧ w' = wr) := dwrite_nil _ wr
          have CW : Hid (Calls Tryd.prog 23 #[.pointer (some ⟨q, 0, none⟩), .slice au m cu] wr fun e w' => e = .returned (.tuple #[]) ∧ ZH q W (A ++ D) w') := HAS.out.write HBE.out.1 HBE.out.2.1 HD.out.1 HD.out.2.2 (by rw [HD.out.2.1, HA.out.1]; have := HMT.out; omega)
          have HAL : Hid ((A ++ D).length = t + m) := by
            have : (A ++ D).length = t + m := by rw [List.length_append, HA.out.1, HD.out.2.1]
            exact this
          have HAD : Hid ((A ++ D).length ≤ 200000) := by
            have : (A ++ D).length ≤ 200000 := by rw [HAL.out]; have := HMT.out; omega
            exact this
          clear htb hr hgt
          obtain ⟨hw, hw'⟩ := HWL.out
          obtain ⟨hwa, hwa'⟩ := wrapA HMT.out
          cases ask
          · go_wp2_with (first | (go_at_call 23; first | (refine Calls.mono CWN.out ?_; rintro e w2 ⟨rfl, hV⟩; obtain rfl := hV; clear CWN) | (refine Calls.mono CW.out ?_; rintro e w3 ⟨rfl, h3⟩; have H3 : Hid _ := h3; have c1 := (HCC.out w3 h3.old).1; clear h3 CW)))
            go_roundw
            case rel => exact ⟨i + 1, t + m, A ++ D, HI1.out.1, by go_num, by go_num, HAL.out, HMT.out, H3.out⟩
            case measure => have := HI1.out; simp only [intOf]; omega
          · go_wp2_with (first | (go_at_call 23; first | (refine Calls.mono CWN.out ?_; rintro e w2 ⟨rfl, hV⟩; obtain rfl := hV; clear CWN) | (refine Calls.mono CW.out ?_; rintro e w3 ⟨rfl, h3⟩; have CSN : Hid (Calls Tryd.prog 22 #[.pointer none] w3 fun e w' => e = .returned (.slice none 0 0) ∧ w' = w3) := dsum_nil w3; have CS : Hid (Calls Tryd.prog 22 #[.pointer (some ⟨q, 0, none⟩)] w3 fun e w2 => ∃ g2, e = .returned (.slice (some ⟨g2, 0, none⟩) 0 0) ∧ ZH q W (A ++ D) w2) := h3.sum HBE.out.1 HBE.out.2.1 HAD.out; have c1 := (HCC.out w3 h3.old).1; clear h3 CW)) | (go_at_call 22; first | (refine Calls.mono CSN.out ?_; rintro e w4 ⟨rfl, hV⟩; obtain rfl := hV; clear CSN) | (refine Calls.mono CS.out ?_; rintro e w5 ⟨g2, rfl, h5⟩; have H5 : Hid _ := h5; clear h5 CS)))
            go_roundw
            case rel => exact ⟨i + 1, t + m, A ++ D, HI1.out.1, by go_num, by go_num, HAL.out, HMT.out, H5.out⟩
            case measure => have := HI1.out; simp only [intOf]; omega
      · have b1 : ¬ (i : Int) < (n : Int) := by omega
        have CSN : Hid (Calls Tryd.prog 22 #[.pointer none] wr fun e w' => e = .returned (.slice none 0 0) ∧ w' = wr) := dsum_nil wr
        have CS : Hid (Calls Tryd.prog 22 #[.pointer (some ⟨q, 0, none⟩)] wr fun e w2 => ∃ g2, e = .returned (.slice (some ⟨g2, 0, none⟩) 0 0) ∧ ZH q W A w2) := HAS.out.sum HBE.out.1 HBE.out.2.1 (by rw [HA.out.1]; have := HA.out.2; omega)
        clear hi htb
        go_wp2_with (first | (go_at_call 22; first | (refine Calls.mono CSN.out ?_; rintro e w4 ⟨rfl, hV⟩; obtain rfl := hV; clear CSN) | (refine Calls.mono CS.out ?_; rintro e w5 ⟨g2, rfl, h5⟩; have CK : Hid (Calls Tryd.prog 18 #[] w5 fun e w' => e = .returned (.bool true) ∧ Below q W w') := known_at h5.old HBE.out.1 HBE.out.2.1 HBE.out.2.2 h5.le; clear h5 CS)) | (go_at_call 18; refine Calls.mono CK.out ?_; rintro e w6 ⟨rfl, h6⟩; have H6 : Hid _ := h6; clear h6 CK))
        go_ret
        exact ⟨rfl, H6.out⟩
  · have b0 : (400 : Int) < (n : Int) := by omega
    have b0' : 400 < n := by omega
    go_enter Tryd.func7, Tryd.ntmps7
    go_wp2
    go_ret
    exact ⟨rfl, HB0.out⟩
end Go.Proofs.YtfkbgodfcnmepaaDoor
