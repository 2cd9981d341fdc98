import Derived.Test.YtgfamcadgahiiaaMnA
namespace Go.Proofs.Ytgfamcadgahiiaa
set_option linter.unusedSimpArgs false
set_option linter.unusedVariables false
open Go.ChangeShapes Go.WideShapes Go.ChangeAt Go.RowKit Go.Pin Go.Prm
theorem scr_at {W : World} {q : Nat} (hq : W.heap.size = q) {a : Option Addr} {S : List Stp} (h : Scr W a S) (hb : ∀ q ∈ S, Byt q.2 ∧ q.2.length ≤ maxLen) (i : Nat) (hi : i < S.length) : ∃ b o u, a = some ⟨b, o, none⟩ ∧ (∀ Y, Below q W Y → Y.cell? ⟨b, o + i * 2, none⟩ = some (.bool (S.getD i (false, [])).1) ∧ Y.cell? ⟨b, o + i * 2 + 1, none⟩ = some u) ∧ (∀ bx, Src q W bx u (S.getD i (false, [])).2) ∧ Byt (S.getD i (false, [])).2 ∧ (S.getD i (false, [])).2.length ≤ maxLen := by
  obtain ⟨b, o, u, h1, h2, h3, h4⟩ := h i hi
  have hm : S.getD i (false, []) ∈ S := by rw [List.getD_eq_getElem?_getD, List.getElem?_eq_getElem hi]; exact List.getElem_mem _
  refine ⟨b, o, u, h1, fun Y hY => ⟨?_, ?_⟩, fun bx => by rw [← hq]; exact h4.src bx, (hb _ hm).1, (hb _ hm).2⟩
  · rw [World.cell?_of_block (a := ⟨b, o + i * 2, none⟩) (hY.block b (by rw [← hq]; exact World.block_lt_of_cell? W _ h2))]
    exact h2
  · rw [World.cell?_of_block (a := ⟨b, o + i * 2 + 1, none⟩) (hY.block b (by rw [← hq]; exact World.block_lt_of_cell? W _ h2))]
    exact h3
theorem tag_nil' (W : World) : Calls Try.prog 13 #[.pointer none] W fun e w' => e = .returned (.agg (VI .u8 z16)) ∧ Below W.heap.size W w' := tag_nil W
theorem mtag_zero' {D : List Int} (hD : Byt D) : mtag z32 D = z16 := mtag_zero hD
theorem wrapL {m : Nat} (h : m ≤ 131072) : wrap64 (131072 - (m : Int)) = ((131072 - m : Nat) : Int) ∧ IntKind.i64.wrap (131072 - (m : Int)) = ((131072 - m : Nat) : Int) := by
  rw [IntWalk.wrap64_in _ ⟨by omega, by omega⟩, IntWalk.i64_in _ ⟨by omega, by omega⟩]
  omega
set_option maxRecDepth 100000 in
set_option maxHeartbeats 16000000 in
theorem nothing_walk (S : List Stp) (a : Option Addr) (cap : Nat) (W : World) (hS : Scr W a S) (hb : ∀ q ∈ S, Byt q.2 ∧ q.2.length ≤ maxLen) :
    Calls Try.prog 7 #[.slice a S.length cap] W fun e w' => e = .returned (.bool true) ∧ Below W.heap.size W w' := by
  have e1 := (ev_nil' W).new (mst (.pointer none) z32 [])
  obtain ⟨q, hq⟩ : ∃ q, W.heap.size = q := ⟨_, rfl⟩
  have HSC : Hid (∀ i, i < S.length → ∃ b o u, a = some ⟨b, o, none⟩ ∧ (∀ Y, Below q W Y → Y.cell? ⟨b, o + i * 2, none⟩ = some (.bool (S.getD i (false, [])).1) ∧ Y.cell? ⟨b, o + i * 2 + 1, none⟩ = some u) ∧ (∀ bx, Src q W bx u (S.getD i (false, [])).2) ∧ Byt (S.getD i (false, [])).2 ∧ (S.getD i (false, [])).2.length ≤ maxLen) := fun i hi => scr_at hq hS hb i hi
  obtain ⟨W0, hW0⟩ : ∃ V, W.alloc (mst (.pointer none) z32 []) = V := ⟨_, rfl⟩
  rw [hW0, hq] at e1
  rw [zero_mac] at hW0
  have hW0' : W.alloc (.cells #[.pointer none, .int .u64 0, .int .u64 0, .int .u64 0, .int .u64 0, .int .u64 0, .int .u8 0, .int .u8 0, .int .u8 0, .int .u8 0, .int .u8 0, .int .u8 0, .int .u8 0, .int .u8 0, .int .u8 0, .int .u8 0, .int .u8 0, .int .u8 0, .int .u8 0, .int .u8 0, .int .u8 0, .int .u8 0, .int .u64 0, .int .u64 0, .int .u64 0, .int .u64 0, .int .u64 0, .int .u8 0, .int .u8 0, .int .u8 0, .int .u8 0, .int .u8 0, .int .u8 0, .int .u8 0, .int .u8 0, .int .u8 0, .int .u8 0, .int .u8 0, .int .u8 0, .int .u8 0, .int .u8 0, .int .u8 0, .int .u8 0, .int .u8 0, .int .i64 0] 69) = W0 := hW0
  have E1 : Hid (AS q W q z32 [] [] (.slice none 0 0) W0) := ⟨[], lst_nil _ _, e1, (fun p hp => nomatch hp)⟩
  rw [hq]
  obtain ⟨n, hn⟩ : ∃ n, S.length = n := ⟨_, rfl⟩
  rw [hn] at HSC ⊢
  have EQ0 : ∀ w, (Op.equalIn 10000 36 (.agg (VI .u8 z16)) (.agg #[.int .u8 0, .int .u8 0, .int .u8 0, .int .u8 0, .int .u8 0, .int .u8 0, .int .u8 0, .int .u8 0, .int .u8 0, .int .u8 0, .int .u8 0, .int .u8 0, .int .u8 0, .int .u8 0, .int .u8 0, .int .u8 0])).run Try.prog w = .ok true w := fun w => by
    have := eqT (x := z16) (y := z16) rfl rfl w
    rw [beq_self_eq_true] at this
    exact this
  have HB0 : Hid (Below q W W) := Below.refl _ _
  clear e1 hS hb hn hW0
  by_cases hbig : n ≤ 400
  · have b0 : ¬ (400 : Int) < (n : Int) := by omega
    have b0' : ¬ 400 < n := by omega
    have HB : Hid (n ≤ 400) := hbig
    clear hbig
    go_enter Try.func7, Try.ntmps7
    go_wp2
    go_loopw [5, 6] (fun vl vi w' => ∃ (i : Nat) (A : List Int), i ≤ n ∧ vi = .int .i64 (i : Int) ∧ A.length ≤ 131072 ∧ Byt A ∧ AS q W q z32 A A vl w') (fun _ vi _ => n - (intOf vi).toNat)
    case atStart => exact ⟨0, [], Nat.zero_le _, rfl, by simp, (fun x hx => nomatch hx), E1.out⟩
    case round =>
      clear E1 hW0'
      obtain ⟨i, A, hi, rfl, hA, hAb, has⟩ := hrel
      have HA : Hid (A.length ≤ 131072 ∧ Byt A ∧ i ≤ n) := ⟨hA, hAb, hi⟩
      obtain ⟨al, cl, rfl⟩ := has.slice
      have HAS : Hid (AS q W q z32 A A (.slice al A.length cl) wr) := has
      clear hA hAb has
      by_cases hlt : i < n
      · have b1 : (i : Int) < (n : Int) := by omega
        obtain ⟨b, o, u, rfl, hcc, hsu, hDb, hDm⟩ := HSC.out i hlt
        obtain ⟨D, hD⟩ : ∃ D, (S.getD i (false, [])).2 = D := ⟨_, rfl⟩
        obtain ⟨ask, hask⟩ : ∃ k, (S.getD i (false, [])).1 = k := ⟨_, rfl⟩
        rw [hD] at hsu hDb hDm
        rw [hask] at hcc
        have HCC : Hid _ := hcc
        obtain ⟨c1, c2⟩ := hcc wr HAS.out.old
        obtain ⟨au, cu, rfl, _, _⟩ := id (hsu [])
        obtain ⟨m, hm⟩ : ∃ m, D.length = m := ⟨_, rfl⟩
        obtain ⟨t, ht⟩ : ∃ t, A.length = t := ⟨_, rfl⟩
        have HD : Hid (Byt D ∧ D.length = m ∧ A.length = t ∧ (∀ bx, Src q W bx (.slice au m cu) D)) := ⟨hDb, hm, ht, by rw [← hm]; exact hsu⟩
        have HI1 : Hid (i < n ∧ n ≤ 400) := ⟨hlt, HB.out⟩
        rw [hm] at c2
        rw [ht] at HAS ⊢
        have htb : t ≤ 131072 := by rw [← ht]; exact HA.out.1
        have HWL : Hid (wrap64 (131072 - (t : Int)) = ((131072 - t : Nat) : Int) ∧ IntKind.i64.wrap (131072 - (t : Int)) = ((131072 - t : Nat) : Int)) := wrapL htb
        obtain ⟨r, hr⟩ : ∃ r, 131072 - t = r := ⟨_, rfl⟩
        rw [hr] at HWL
        clear hcc hsu hDb hDm hD hask hm ht hi
        by_cases hgt : r < m
        · have b2 : (r : Int) < (m : Int) := by omega
          have HF : Hid (Below q W wr) := HAS.out.old
          obtain ⟨hw, hw'⟩ := HWL.out
          clear htb hr
          go_wp2
          go_ret
          exact ⟨rfl, HF.out⟩
        · have b2 : ¬ (r : Int) < (m : Int) := by omega
          have HMT : Hid (t + m ≤ 131072) := by show t + m ≤ 131072; omega
          obtain ⟨hw, hw'⟩ := HWL.out
          have CWN : Hid (Calls Try.prog 16 #[.pointer none, .slice au m cu] wr fun e w' => e = .returned (.tuple #[]) ∧ w' = wr) := write_nil _ wr
          have CW : Hid (Calls Try.prog 16 #[.pointer (some ⟨q, 0, none⟩), .slice au m cu] wr fun e w' => e = .returned (.tuple #[]) ∧ AS q W q z32 (A ++ D) A (.slice al t cl) w') := HAS.out.write z32_key HA.out.2.1 HD.out.1 (by rw [HD.out.2.1]; have := HMT.out; omega) (HD.out.2.2.2 [])
          clear htb hr hgt
          cases ask
          · go_wp2_with (first | (go_at_call 16; first | (refine Calls.mono CWN.out ?_; rintro e w2 ⟨rfl, hV⟩; obtain rfl := hV; clear CWN) | (refine Calls.mono CW.out ?_; rintro e w3 ⟨rfl, h3⟩; have HAP : Hid _ := fun ty => AS.app (u := .slice au m cu) h3 (HD.out.2.2.2 []) (by rw [HD.out.2.1, HD.out.2.2.1]; have := HMT.out; omega) ty; clear h3)) | (at_builtin; refine wpList_app _ rfl (.tmp 36) (.tmp 37) 30 30 rfl _ _ rfl rfl HAP.out ?_; intro v5 w5 h5; have c5 := (HCC.out w5 h5.old).1; have H5 : Hid _ := h5; clear h5))
            go_roundw
            case rel => exact ⟨i + 1, A ++ D, HI1.out.1, by go_num, by rw [List.length_append, HD.out.2.1, HD.out.2.2.1]; exact HMT.out, (fun x hx => by
              rcases List.mem_append.1 hx with hx | hx
              · exact HA.out.2.1 x hx
              · exact HD.out.1 x hx), H5.out⟩
            case measure => have := HI1.out; simp only [intOf]; omega
          · have HADB : Hid (Byt (A ++ D) ∧ (A ++ D).length ≤ 131072) := by
              have : Byt (A ++ D) ∧ (A ++ D).length ≤ 131072 := ⟨(fun x hx => by
                rcases List.mem_append.1 hx with hx | hx
                · exact HA.out.2.1 x hx
                · exact HD.out.1 x hx), by rw [List.length_append, HD.out.2.1, HD.out.2.2.1]; exact HMT.out⟩
              exact this
            have EQT : ∀ w, (Op.equalIn 10000 36 (.agg (VI .u8 (mtag z32 (A ++ D)))) (.agg (VI .u8 (mtag z32 (A ++ D))))).run Try.prog w = .ok true w := fun w => by
              rw [eqT (mtag_len _ _) (mtag_len _ _), beq_self_eq_true]
            go_wp2_with (first | (go_at_call 16; first | (refine Calls.mono CWN.out ?_; rintro e w2 ⟨rfl, hV⟩; obtain rfl := hV; clear CWN) | (refine Calls.mono CW.out ?_; rintro e w3 ⟨rfl, h3⟩; have HAP : Hid _ := fun ty => AS.app (u := .slice au m cu) h3 (HD.out.2.2.2 []) (by rw [HD.out.2.1, HD.out.2.2.1]; have := HMT.out; omega) ty; clear h3)) | (at_builtin; refine wpList_app _ rfl (.tmp 36) (.tmp 37) 30 30 rfl _ _ rfl rfl HAP.out ?_; intro v5 w5 h5; have c5 := (HCC.out w5 h5.old).1; have CTN : Hid _ := tag_nil' w5; have H5 : Hid _ := h5; clear h5) | (go_at_call 13; first | (refine Calls.mono CTN.out ?_; rintro e w6 ⟨rfl, hb6⟩; have h6 := AS.below H5.out hb6; have CT : Hid _ := AS.tag h6 z32_key HADB.out.1; clear h6 hb6 CTN) | (refine Calls.mono CT.out ?_; rintro e w7 ⟨rfl, h7⟩; have CR : Hid _ := AS.rtag (k := z32) h7 z32_key HADB.out.1 (by have := HADB.out.2; omega); clear h7)) | (go_at_call 14; refine Calls.mono CR.out ?_; rintro e w8 ⟨rfl, h8⟩; have H8 : Hid _ := h8; clear h8))
            go_roundw
            case rel => exact ⟨i + 1, A ++ D, HI1.out.1, by go_num, HADB.out.2, HADB.out.1, H8.out⟩
            case measure => have := HI1.out; simp only [intOf]; omega
      · have b1 : ¬ (i : Int) < (n : Int) := by omega
        have CTN : Hid (Calls Try.prog 13 #[.pointer none] wr fun e w' => e = .returned (.agg (VI .u8 z16)) ∧ AS q W q z32 A A (.slice al A.length cl) w') := (tag_nil' wr).mono (fun e w' hh => ⟨hh.1, HAS.out.below hh.2⟩)
        clear hi
        go_wp2_with (first | (go_at_call 13; first | (refine Calls.mono CTN.out ?_; rintro e w6 ⟨rfl, h6⟩; have CT : Hid _ := AS.tag h6 z32_key HA.out.2.1; rw [mtag_zero' HA.out.2.1] at CT; clear h6 CTN) | (refine Calls.mono CT.out ?_; rintro e w7 ⟨rfl, h7⟩; have CK : Hid (Calls Try.prog 21 #[] w7 fun e w' => e = .returned (.bool true) ∧ Below q W w') := (known_any w7).mono (fun e w' hh => ⟨hh.1, (AS.below h7 hh.2).old⟩); clear h7)) | (go_at_call 21; refine Calls.mono CK.out ?_; rintro e w8 ⟨rfl, h8⟩; have H8 : Hid _ := h8; clear h8))
        go_ret
        exact ⟨rfl, H8.out⟩
  · have b0 : (400 : Int) < (n : Int) := by omega
    have b0' : 400 < n := by omega
    go_enter Try.func7, Try.ntmps7
    go_wp2
    go_ret
    exact ⟨rfl, HB0.out⟩
end Go.Proofs.Ytgfamcadgahiiaa
