import Derived.Test.YtgfamcadgahiiaaMmau
namespace Go.Proofs.Ytgfamcadgahiiaa
set_option linter.unusedSimpArgs false
set_option linter.unusedVariables false
open Go.ChangeShapes Go.WideShapes Go.ChangeAt Go.RowKit Go.Pin Go.Prm
theorem if_false_mpr {b : Bool} {x y : Prop} (hb : b = false) (h : y) : if b = true then x else y := by rw [hb]; simpa using h
theorem hidAct {K : Act → Prop} {a : Act} (h : ∀ aa, aa = a → K aa) : K a := h a rfl
theorem below_drew (w : World) : Below w.heap.size w w.drew := ⟨rfl, rfl, rfl, Nat.le_refl _, fun _ _ => rfl⟩
theorem wrapL2 {a b : Nat} (h : b ≤ a) (ha : a ≤ 131072) : wrap64 ((a : Int) - (b : Int)) = ((a - b : Nat) : Int) ∧ IntKind.i64.wrap ((a : Int) - (b : Int)) = ((a - b : Nat) : Int) := by
  rw [IntWalk.wrap64_in _ ⟨by omega, by omega⟩, IntWalk.i64_in _ ⟨by omega, by omega⟩]
  omega
/-- a third one, begun meanwhile -/
theorem third {W : World} {key : List Int} (hk : Key32 key) : Calls Try.prog 10 #[.pointer none, .agg (VI .u8 key)] W fun e w1 => ∃ gc g8, e = .returned (.pointer (some ⟨gc, 0, none⟩)) ∧ w1.heap.size = g8 ∧ Calls Try.prog 16 #[.pointer (some ⟨gc, 0, none⟩), .slice (some ⟨g8, 0, none⟩) 1 1] (w1.alloc (.cells #[.int .u8 7] 5)) fun e w2 => e = .returned (.tuple #[]) ∧ Calls Try.prog 13 #[.pointer (some ⟨gc, 0, none⟩)] w2 fun e w3 => e = .returned (.agg (VI .u8 (mtag key [7]))) ∧ Below W.heap.size W w3 := by
  refine (mnew_any (ev_nil' W) hk).mono ?_
  rintro e w1 ⟨gc, rfl, _, h1⟩
  have h2 := h1.new (.cells (VI .u8 [7]) 5)
  have hlt := h1.lt mem0
  refine ⟨gc, _, rfl, rfl, ?_⟩
  refine (mwrite_any (D := [7]) h2.flip (fun p hp => by rw [List.mem_singleton.1 hp]; show w1.heap.size ≠ gc; omega) (fun h => absurd rfl h) hk (fun x hx => nomatch hx) (by decide) (src_box (L := [7]) mem0 0 1 1 (by decide) (by decide))).mono ?_
  rintro e w2 ⟨rfl, h3⟩
  rw [List.nil_append [7]] at h3
  refine ⟨rfl, ?_⟩
  refine (mtag_any h3 (fun h => absurd rfl h) hk (by decide)).mono ?_
  rintro e w3 ⟨rfl, h4⟩
  exact ⟨rfl, h4.old⟩
set_option maxRecDepth 100000 in
set_option maxHeartbeats 32000000 in
theorem two_walk (one two : List Int) (hk1 : Key32 one) (hk2 : Key32 two) (S : List Stp) (a : Option Addr) (cap : Nat) (W : World) (hS : Scr W a S) (hb : ∀ q ∈ S, Byt q.2 ∧ q.2.length ≤ maxLen) :
    Calls Try.prog 6 #[.agg (VI .u8 one), .agg (VI .u8 two), .slice a S.length cap] W fun e w' => e = .returned (.bool true) ∧ Below W.heap.size W w' := by
  have e1 := ((ev_nil' W).new (.cells (VI .u8 one) 23)).new (.cells (VI .u8 two) 23)
  obtain ⟨q, hq⟩ : ∃ q, W.heap.size = q := ⟨_, rfl⟩
  have HSC : Hid (∀ i, i < S.length → ∃ b o u, a = some ⟨b, o, none⟩ ∧ (∀ Y, Below q W Y → Y.cell? ⟨b, o + i * 2, none⟩ = some (.bool (S.getD i (false, [])).1) ∧ Y.cell? ⟨b, o + i * 2 + 1, none⟩ = some u) ∧ (∀ bx, Src q W bx u (S.getD i (false, [])).2) ∧ Byt (S.getD i (false, [])).2 ∧ (S.getD i (false, [])).2.length ≤ maxLen) := fun i hi => scr_at hq hS hb i hi
  simp only [size_alloc, hq] at e1
  obtain ⟨V0, hV0⟩ : ∃ V, W.alloc (.cells (VI .u8 one) 23) = V := ⟨_, rfl⟩
  obtain ⟨W0, hW0⟩ : ∃ V, V0.alloc (.cells (VI .u8 two) 23) = V := ⟨_, rfl⟩
  have s0 : V0.heap.size = q + 1 := by rw [← hV0, size_alloc, hq]
  rw [hV0, hW0] at e1
  rw [hq]
  obtain ⟨n, hn⟩ : ∃ n, S.length = n := ⟨_, rfl⟩
  rw [hn] at HSC ⊢
  have HK : Hid (Key32 one ∧ Key32 two) := ⟨hk1, hk2⟩
  have HI1 : Hid ((Try.prog.info? 23).map (·.size) = some (VI .u8 one).size) := by
    have : (Try.prog.info? 23).map (·.size) = some (VI .u8 one).size := by rw [VI_size, hk1.len]; exact infoK
    exact this
  have HI2 : Hid ((Try.prog.info? 23).map (·.size) = some (VI .u8 two).size) := by
    have : (Try.prog.info? 23).map (·.size) = some (VI .u8 two).size := by rw [VI_size, hk2.len]; exact infoK
    exact this
  have HJ1 : Hid ((Try.prog.info? 23).map (·.size) = some one.length) := by
    have : (Try.prog.info? 23).map (·.size) = some one.length := by rw [hk1.len]; exact infoK
    exact this
  have HJ2 : Hid ((Try.prog.info? 23).map (·.size) = some two.length) := by
    have : (Try.prog.info? 23).map (·.size) = some two.length := by rw [hk2.len]; exact infoK
    exact this
  have HB0 : Hid (Below q W W0) := e1.old
  by_cases hbig : n ≤ 400
  · have b0 : ¬ (400 : Int) < (n : Int) := by omega
    have b0' : ¬ 400 < n := by omega
    have HB : Hid (n ≤ 400) := hbig
    have HLD : Hid (W0.rangeAt q 0 (one.map (Value.int .u8))) := row_range (e1.row mem1)
    have CN : Hid (Calls Try.prog 10 #[.pointer none, .agg (VI .u8 one)] W0 fun e w' => ∃ ga, e = .returned (.pointer (some ⟨ga, 0, none⟩)) ∧ q + 1 < ga ∧ Ev q W (.pointer none) [] [(ga, mst (.pointer none) one []), (q + 1, .cells (VI .u8 two) 23), (q, .cells (VI .u8 one) 23)] w') := (mnew_any e1 hk1).mono (fun e w' hh => by
      obtain ⟨g, rfl, hg, hh⟩ := hh
      have := e1.lt mem0
      exact ⟨g, rfl, by omega, hh⟩)
    clear e1 hS hb hn hbig hk1 hk2
    go_enter Try.func6, Try.ntmps6
    go_upto_region 4 with (first | (go_at_call 10; refine Calls.mono CN.out ?_; rintro e W1 ⟨ga, rfl, hga, h1⟩; have H1 : Hid _ := h1; have HGA : Hid (q + 1 < ga) := hga; clear h1 hga) | (with_reducible refine at_list ?_; first | (refine load_midI rfl 23 (.tmp 3) rfl q 0 rfl .u8 one _ HLD.out Try.underlying23 rfl HJ1.out ?_)))
    have HLD2 : Hid (W1.rangeAt (q + 1) 0 (two.map (Value.int .u8))) := row_range (H1.out.row mem1)
    have CN2 : Hid (Calls Try.prog 10 #[.pointer none, .agg (VI .u8 two)] W1 fun e w' => ∃ gb, e = .returned (.pointer (some ⟨gb, 0, none⟩)) ∧ TS q W ⟨ga, q, one, [], [], .slice none 0 0⟩ ⟨gb, q + 1, two, [], [], .slice none 0 0⟩ w') := (mnew_any H1.out HK.out.2).mono (fun e w' hh => by
      obtain ⟨gb, rfl, hg, hh⟩ := hh
      have k1 := H1.out.lt mem0
      have k2 := HGA.out
      refine ⟨gb, rfl, [], [], lst_nil _ _, lst_nil _ _, hh.sub (fun p hp => ?_), (fun p hp => nomatch hp), (fun p hp => nomatch hp), ⟨?_, ?_, ?_, ?_, ?_⟩⟩
      · simp only [One.fx, List.nil_append, List.cons_append, List.mem_cons, List.not_mem_nil, or_false] at hp ⊢
        rcases hp with hp | hp | hp | hp
        · exact .inr (.inl hp)
        · exact .inr (.inr (.inr hp))
        · exact .inl hp
        · exact .inr (.inr (.inl hp))
      · show q ≠ ga; omega
      · show gb ≠ ga; omega
      · show q + 1 ≠ ga; omega
      · show q ≠ gb; omega
      · show q + 1 ≠ gb; omega)
    clear CN HLD
    go_upto_region 7 with (first | (go_at_call 10; refine Calls.mono CN2.out ?_; rintro e W2 ⟨gb, rfl, h2⟩; have H2 : Hid _ := h2; clear h2) | (with_reducible refine at_list ?_; first | (refine load_midI rfl 23 (.tmp 4) rfl (q + 1) 0 rfl .u8 two _ HLD2.out Try.underlying23 rfl HJ2.out ?_)))
    clear CN2 HLD2 H1 hV0 hW0 s0 hq
    go_wp2_with fail
    go_loopw [9, 10, 11] (fun vx vy vi w' => ∃ (i : Nat) (X Y : List Int), i ≤ n ∧ vi = .int .i64 (i : Int) ∧ (X.length + Y.length ≤ 131072 ∧ Byt X ∧ Byt Y) ∧ TS q W ⟨ga, q, one, X, X, vx⟩ ⟨gb, q + 1, two, Y, Y, vy⟩ w') (fun _ _ vi _ => n - (intOf vi).toNat)
    case atStart => exact ⟨0, [], [], Nat.zero_le _, rfl, ⟨by simp, (fun x hx => nomatch hx), (fun x hx => nomatch hx)⟩, H2.out⟩
    case round =>
      clear H2
      obtain ⟨i, X, Y, hi, rfl, hXY, hts⟩ := hrel
      obtain ⟨ax, cx, rfl⟩ : ∃ ax cx, u9 = .slice ax X.length cx := TS.slice (x := ⟨ga, q, one, X, X, u9⟩) hts
      obtain ⟨ay, cy, rfl⟩ : ∃ ay cy, u10 = .slice ay Y.length cy := TS.slice (x := ⟨gb, q + 1, two, Y, Y, u10⟩) hts.swap
      obtain ⟨tx, htx⟩ : ∃ t, X.length = t := ⟨_, rfl⟩
      obtain ⟨ty, hty⟩ : ∃ t, Y.length = t := ⟨_, rfl⟩
      rw [htx] at hts ⊢
      rw [hty] at hts ⊢
      have HXY : Hid (X.length + Y.length ≤ 131072 ∧ Byt X ∧ Byt Y) := hXY
      have HTL : Hid (X.length = tx ∧ Y.length = ty ∧ tx + ty ≤ 131072) := ⟨htx, hty, by rw [← htx, ← hty]; exact hXY.1⟩
      have HTS : Hid (TS q W ⟨ga, q, one, X, X, (.slice ax tx cx)⟩ ⟨gb, q + 1, two, Y, Y, (.slice ay ty cy)⟩ wr) := hts
      clear hXY hts htx hty
      by_cases hlt : i < n
      · have b1 : (i : Int) < (n : Int) := by omega
        obtain ⟨b, o, u, rfl, hcc, hsu, hDb, hDm⟩ := HSC.out i hlt
        obtain ⟨D, hD⟩ : ∃ D, (S.getD i (false, [])).2 = D := ⟨_, rfl⟩
        obtain ⟨ask, hask⟩ : ∃ k, (S.getD i (false, [])).1 = k := ⟨_, rfl⟩
        rw [hD] at hsu hDb hDm
        rw [hask] at hcc
        have HCC : Hid (∀ Y, Below q W Y → Y.cell? ⟨b, o + i * 2, none⟩ = some (.bool ask) ∧ Y.cell? ⟨b, o + i * 2 + 1, none⟩ = some u) := hcc
        obtain ⟨c1, c2⟩ := hcc wr HTS.out.old
        obtain ⟨au, cu, rfl, _, _⟩ := id (hsu [])
        obtain ⟨m, hm⟩ : ∃ m, D.length = m := ⟨_, rfl⟩
        have HD : Hid (Byt D ∧ D.length = m ∧ (∀ bx, Src q W bx (.slice au m cu) D)) := ⟨hDb, hm, by rw [← hm]; exact hsu⟩
        have HIN : Hid (i < n ∧ n ≤ 400) := ⟨hlt, HB.out⟩
        rw [hm] at c2
        have HWL : Hid (∃ rx r, tx + rx = 131072 ∧ rx = ty + r ∧ wrap64 (131072 - (tx : Int)) = (rx : Int) ∧ IntKind.i64.wrap (131072 - (tx : Int)) = (rx : Int) ∧ wrap64 ((rx : Int) - (ty : Int)) = (r : Int) ∧ IntKind.i64.wrap ((rx : Int) - (ty : Int)) = (r : Int)) := by
          have hb3 := HTL.out.2.2
          have k1 := wrapL (m := tx) (by omega)
          have k2 := wrapL2 (a := 131072 - tx) (b := ty) (by omega) (by omega)
          exact ⟨131072 - tx, 131072 - tx - ty, by omega, by omega, k1.1, k1.2, k2.1, k2.2⟩
        clear hcc hsu hDb hDm hD hask hm hi
        obtain ⟨rx, r, hrx, hr, hwr⟩ := HWL.out
        have HWR : Hid _ := hwr
        clear hwr HWL
        by_cases hgt : r < m
        · have b2 : (r : Int) < (m : Int) := by omega
          have HF : Hid (Below q W wr) := HTS.out.old
          obtain ⟨w1, w2, w3, w4⟩ := HWR.out
          clear hrx hr
          go_wp2
          go_ret
          exact ⟨rfl, HF.out⟩
        · have b2 : ¬ (r : Int) < (m : Int) := by omega
          have HMT : Hid (tx + ty + m ≤ 131072 ∧ m ≤ 131072) := ⟨by omega, by omega⟩
          have HXD : Hid (Byt (X ++ D) ∧ Byt (Y ++ D) ∧ (X ++ D).length = tx + m ∧ (Y ++ D).length = ty + m) := by
            have : Byt (X ++ D) ∧ Byt (Y ++ D) ∧ (X ++ D).length = tx + m ∧ (Y ++ D).length = ty + m := ⟨(fun x hx => by
              rcases List.mem_append.1 hx with hx | hx
              · exact HXY.out.2.1 x hx
              · exact HD.out.1 x hx), (fun x hx => by
              rcases List.mem_append.1 hx with hx | hx
              · exact HXY.out.2.2 x hx
              · exact HD.out.1 x hx), by rw [List.length_append, HTL.out.1, HD.out.2.1], by rw [List.length_append, HTL.out.2.1, HD.out.2.1]⟩
            exact this
          obtain ⟨w1, w2, w3, w4⟩ := HWR.out
          clear hrx hr hgt
          go_upto_if 49 with fail
          go_cut [9, 10] (fun vx vy wx => ∃ X2 Y2 : List Int, (X2.length + Y2.length ≤ 131072 ∧ Byt X2 ∧ Byt Y2) ∧ TS q W ⟨ga, q, one, X2, X2, vx⟩ ⟨gb, q + 1, two, Y2, Y2, vy⟩ wx)
          case first =>
            clear w1 w2 w3 w4
            by_cases hpar : i % 2 = 0
            · have b3 : (i : Int) % 2 = 0 := by omega
              have b4 : ((i : Int) % 2 == 0) = true := by simp; omega
              have b5 : (2 : Int) ∣ (i : Int) := by omega
              have CW : Hid (Calls Try.prog 16 #[.pointer (some ⟨ga, 0, none⟩), .slice au m cu] wr fun e w' => e = .returned (.tuple #[]) ∧ TS q W ⟨ga, q, one, X ++ D, X, .slice ax tx cx⟩ ⟨gb, q + 1, two, Y, Y, .slice ay ty cy⟩ w') := TS.write (x := ⟨ga, q, one, X, X, .slice ax tx cx⟩) HTS.out HK.out.1 HXY.out.2.1 HD.out.1 (by rw [HD.out.2.1]; have := HMT.out.2; omega) (HD.out.2.2 [])
              go_wp2_with (first | (go_at_call 16; refine Calls.mono CW.out ?_; rintro e w3 ⟨rfl, h3⟩; have HAP : Hid _ := fun ty' => TS.app (x := ⟨ga, q, one, X ++ D, X, .slice ax tx cx⟩) (u := .slice au m cu) h3 (HD.out.2.2 []) (by show X.length + D.length ≤ 1000000; rw [HD.out.2.1, HTL.out.1]; have := HMT.out.1; omega) ty'; clear h3) | (at_builtin; refine wpList_app _ rfl (.tmp 53) (.tmp 54) 30 30 rfl _ _ rfl rfl HAP.out ?_; intro v5 w5 h5; have H5 : Hid _ := h5; clear h5))
              go_meet
              exact ⟨X ++ D, Y, ⟨by rw [HXD.out.2.2.1, HTL.out.2.1]; have := HMT.out.1; omega, HXD.out.1, HXY.out.2.2⟩, H5.out⟩
            · have b3 : ¬ (i : Int) % 2 = 0 := by omega
              have b4 : ((i : Int) % 2 == 0) = false := by simp; omega
              have b5 : ¬ (2 : Int) ∣ (i : Int) := by omega
              have CW : Hid (Calls Try.prog 16 #[.pointer (some ⟨gb, 0, none⟩), .slice au m cu] wr fun e w' => e = .returned (.tuple #[]) ∧ TS q W ⟨gb, q + 1, two, Y ++ D, Y, .slice ay ty cy⟩ ⟨ga, q, one, X, X, .slice ax tx cx⟩ w') := TS.write (x := ⟨gb, q + 1, two, Y, Y, .slice ay ty cy⟩) HTS.out.swap HK.out.2 HXY.out.2.2 HD.out.1 (by rw [HD.out.2.1]; have := HMT.out.2; omega) (HD.out.2.2 [])
              go_wp2_with (first | (go_at_call 16; refine Calls.mono CW.out ?_; rintro e w3 ⟨rfl, h3⟩; have HAP : Hid _ := fun ty' => TS.app (x := ⟨gb, q + 1, two, Y ++ D, Y, .slice ay ty cy⟩) (u := .slice au m cu) h3 (HD.out.2.2 []) (by show Y.length + D.length ≤ 1000000; rw [HD.out.2.1, HTL.out.2.1]; have := HMT.out.1; omega) ty'; clear h3) | (at_builtin; refine wpList_app _ rfl (.tmp 59) (.tmp 60) 30 30 rfl _ _ rfl rfl HAP.out ?_; intro v5 w5 h5; have H5 : Hid _ := TS.swap h5; clear h5))
              go_meet
              exact ⟨X, Y ++ D, ⟨by rw [HXD.out.2.2.2, HTL.out.1]; have := HMT.out.1; omega, HXY.out.2.1, HXD.out.2.1⟩, H5.out⟩
          case rest =>
            clear w1 w2 w3 w4 c1 c2
            obtain ⟨X2, Y2, hx2, hts2⟩ := hcut
            have HX2 : Hid (X2.length + Y2.length ≤ 131072 ∧ Byt X2 ∧ Byt Y2) := hx2
            have HT2 : Hid (TS q W ⟨ga, q, one, X2, X2, u9⟩ ⟨gb, q + 1, two, Y2, Y2, u10⟩ _) := hts2
            clear hx2 hts2 HTS HXY HTL HXD HMT HWR HD
            have c3 := fun (V : World) (h : TS q W ⟨ga, q, one, X2, X2, u9⟩ ⟨gb, q + 1, two, Y2, Y2, u10⟩ V) => (third (W := V) HK.out.2)
            have l3 := fun (V : World) (h : TS q W ⟨ga, q, one, X2, X2, u9⟩ ⟨gb, q + 1, two, Y2, Y2, u10⟩ V) => (row_range (TS.key (TS.swap h)))
            have CN3 : Hid _ := c3 _ HT2.out
            have HLD3 : Hid (World.rangeAt _ (q + 1) 0 (two.map (Value.int .u8))) := l3 _ HT2.out
            clear c3 l3
            go_upto_if 63 with fail
            go_cut [13] (fun _ wx => TS q W ⟨ga, q, one, X2, X2, u9⟩ ⟨gb, q + 1, two, Y2, Y2, u10⟩ wx)
            case first =>
              by_cases hi1 : i = 1
              · have b7 : ((i : Int) == 1) = true := by simp; omega
                clear hi1
                go_wp2_with (first | (go_at_call 10; refine Calls.mono CN3.out ?_; rintro e w6 ⟨gc, g8, rfl, hg8, cw⟩; have CW3 : Hid _ := cw; clear cw) | (go_at_call 16; refine Calls.mono CW3.out ?_; rintro e w7 ⟨rfl, ct⟩; have CT3 : Hid _ := ct; clear ct) | (go_at_call 13; refine Calls.mono CT3.out ?_; rintro e w8 ⟨rfl, hb8⟩; have H8 : Hid _ := TS.below HT2.out hb8; clear hb8) | (with_reducible refine at_list ?_; first | (refine load_midI rfl 23 (.tmp 4) rfl (q + 1) 0 rfl .u8 two _ HLD3.out Try.underlying23 rfl HJ2.out ?_)))
                go_meet
                exact H8.out
              · have b6 : ¬ (i : Int) = 1 := by omega
                have b7 : ((i : Int) == 1) = false := by simp; omega
                go_wp2_with fail
                go_meet
                exact HT2.out
            case rest =>
              have HT3 : Hid (TS q W ⟨ga, q, one, X2, X2, u9⟩ ⟨gb, q + 1, two, Y2, Y2, u10⟩ _) := hcut
              clear hcut HT2 CN3 HLD3
              have EQA : ∀ w, (Op.equalIn 10000 36 (.agg (VI .u8 (mtag one X2))) (.agg (VI .u8 (mtag one X2)))).run Try.prog w = .ok true w := fun w => by
                rw [eqT (mtag_len _ _) (mtag_len _ _), beq_self_eq_true]
              have EQB : ∀ w, (Op.equalIn 10000 36 (.agg (VI .u8 (mtag two Y2))) (.agg (VI .u8 (mtag two Y2)))).run Try.prog w = .ok true w := fun w => by
                rw [eqT (mtag_len _ _) (mtag_len _ _), beq_self_eq_true]
              have HTA : Hid (∀ Z, TS q W ⟨ga, q, one, X2, X2, u9⟩ ⟨gb, q + 1, two, Y2, Y2, u10⟩ Z → Calls Try.prog 13 #[.pointer (some ⟨ga, 0, none⟩)] Z fun e w2 => e = .returned (.agg (VI .u8 (mtag one X2))) ∧ TS q W ⟨ga, q, one, X2, X2, u9⟩ ⟨gb, q + 1, two, Y2, Y2, u10⟩ w2) := by
                have : ∀ Z, TS q W ⟨ga, q, one, X2, X2, u9⟩ ⟨gb, q + 1, two, Y2, Y2, u10⟩ Z → Calls Try.prog 13 #[.pointer (some ⟨ga, 0, none⟩)] Z fun e w2 => e = .returned (.agg (VI .u8 (mtag one X2))) ∧ TS q W ⟨ga, q, one, X2, X2, u9⟩ ⟨gb, q + 1, two, Y2, Y2, u10⟩ w2 := fun Z hZ => TS.tag (x := ⟨ga, q, one, X2, X2, u9⟩) hZ HK.out.1 HX2.out.2.1
                exact this
              have HRA : Hid (∀ Z, TS q W ⟨ga, q, one, X2, X2, u9⟩ ⟨gb, q + 1, two, Y2, Y2, u10⟩ Z → Calls Try.prog 14 #[.agg (VI .u8 one), u9] Z fun e w2 => e = .returned (.agg (VI .u8 (mtag one X2))) ∧ TS q W ⟨ga, q, one, X2, X2, u9⟩ ⟨gb, q + 1, two, Y2, Y2, u10⟩ w2) := by
                have : ∀ Z, TS q W ⟨ga, q, one, X2, X2, u9⟩ ⟨gb, q + 1, two, Y2, Y2, u10⟩ Z → Calls Try.prog 14 #[.agg (VI .u8 one), u9] Z fun e w2 => e = .returned (.agg (VI .u8 (mtag one X2))) ∧ TS q W ⟨ga, q, one, X2, X2, u9⟩ ⟨gb, q + 1, two, Y2, Y2, u10⟩ w2 := fun Z hZ => TS.rtag (x := ⟨ga, q, one, X2, X2, u9⟩) hZ HK.out.1 HX2.out.2.1 (by have := HX2.out.1; show X2.length ≤ 1000000; omega)
                exact this
              have HTB : Hid (∀ Z, TS q W ⟨ga, q, one, X2, X2, u9⟩ ⟨gb, q + 1, two, Y2, Y2, u10⟩ Z → Calls Try.prog 13 #[.pointer (some ⟨gb, 0, none⟩)] Z fun e w2 => e = .returned (.agg (VI .u8 (mtag two Y2))) ∧ TS q W ⟨ga, q, one, X2, X2, u9⟩ ⟨gb, q + 1, two, Y2, Y2, u10⟩ w2) := by
                have : ∀ Z, TS q W ⟨ga, q, one, X2, X2, u9⟩ ⟨gb, q + 1, two, Y2, Y2, u10⟩ Z → Calls Try.prog 13 #[.pointer (some ⟨gb, 0, none⟩)] Z fun e w2 => e = .returned (.agg (VI .u8 (mtag two Y2))) ∧ TS q W ⟨ga, q, one, X2, X2, u9⟩ ⟨gb, q + 1, two, Y2, Y2, u10⟩ w2 := fun Z hZ => (TS.tag (x := ⟨gb, q + 1, two, Y2, Y2, u10⟩) hZ.swap HK.out.2 HX2.out.2.2).mono (fun e w2 hh => ⟨hh.1, hh.2.swap⟩)
                exact this
              have HRB : Hid (∀ Z, TS q W ⟨ga, q, one, X2, X2, u9⟩ ⟨gb, q + 1, two, Y2, Y2, u10⟩ Z → Calls Try.prog 14 #[.agg (VI .u8 two), u10] Z fun e w2 => e = .returned (.agg (VI .u8 (mtag two Y2))) ∧ TS q W ⟨ga, q, one, X2, X2, u9⟩ ⟨gb, q + 1, two, Y2, Y2, u10⟩ w2) := by
                have : ∀ Z, TS q W ⟨ga, q, one, X2, X2, u9⟩ ⟨gb, q + 1, two, Y2, Y2, u10⟩ Z → Calls Try.prog 14 #[.agg (VI .u8 two), u10] Z fun e w2 => e = .returned (.agg (VI .u8 (mtag two Y2))) ∧ TS q W ⟨ga, q, one, X2, X2, u9⟩ ⟨gb, q + 1, two, Y2, Y2, u10⟩ w2 := fun Z hZ => (TS.rtag (x := ⟨gb, q + 1, two, Y2, Y2, u10⟩) hZ.swap HK.out.2 HX2.out.2.2 (by have := HX2.out.1; show Y2.length ≤ 1000000; omega)).mono (fun e w2 hh => ⟨hh.1, hh.2.swap⟩)
                exact this
              have HRK : Hid (∀ Z, TS q W ⟨ga, q, one, X2, X2, u9⟩ ⟨gb, q + 1, two, Y2, Y2, u10⟩ Z → Z.heap[q]? = some (.cells (VI .u8 one) 23) ∧ Z.heap[q + 1]? = some (.cells (VI .u8 two) 23)) := by
                have : ∀ Z, TS q W ⟨ga, q, one, X2, X2, u9⟩ ⟨gb, q + 1, two, Y2, Y2, u10⟩ Z → Z.heap[q]? = some (.cells (VI .u8 one) 23) ∧ Z.heap[q + 1]? = some (.cells (VI .u8 two) 23) := fun Z hZ => ⟨TS.key hZ, TS.key hZ.swap⟩
                exact this
              go_upto_region 24 with fail
              cases ask
              · refine wp_region_quiet_in (C := fun Y => TS q W ⟨ga, q, one, X2, X2, u9⟩ ⟨gb, q + 1, two, Y2, Y2, u10⟩ Y) (by kernel_rfl) (by kernel_rfl) (TS.below HT3.out (below_drew _)) ?_
                refine wpQuiet_step (fun K hK => ?_)
                go_simp
                first | refine hK _ ?_ | refine ⟨_, fun _ _ => rfl, hK _ ?_⟩
                clear hK K
                try simp only [Act.put, List.getElem_toArray, List.getElem_cons_succ, List.getElem_cons_zero, List.getElem?_toArray, List.getElem?_cons_succ, List.getElem?_cons_zero, List.setIfInBounds_toArray, List.set_cons_zero, List.set_cons_succ]
                refine wpQuiet_step (fun K hK => ?_)
                go_simp
                first | refine hK _ ?_ | refine ⟨_, fun _ _ => rfl, hK _ ?_⟩
                clear hK K
                try simp only [Act.put, List.getElem_toArray, List.getElem_cons_succ, List.getElem_cons_zero, List.getElem?_toArray, List.getElem?_cons_succ, List.getElem?_cons_zero, List.setIfInBounds_toArray, List.set_cons_zero, List.set_cons_succ]
                refine wpQuiet_step (fun K hK => ?_)
                go_simp
                first | refine hK _ ?_ | refine ⟨_, fun _ _ => rfl, hK _ ?_⟩
                clear hK K
                try simp only [Act.put, List.getElem_toArray, List.getElem_cons_succ, List.getElem_cons_zero, List.getElem?_toArray, List.getElem?_cons_succ, List.getElem?_cons_zero, List.setIfInBounds_toArray, List.set_cons_zero, List.set_cons_succ]
                refine wpQuiet_step (fun K hK => ?_)
                go_simp
                first | refine hK _ ?_ | refine ⟨_, fun _ _ => rfl, hK _ ?_⟩
                clear hK K
                try simp only [Act.put, List.getElem_toArray, List.getElem_cons_succ, List.getElem_cons_zero, List.getElem?_toArray, List.getElem?_cons_succ, List.getElem?_cons_zero, List.setIfInBounds_toArray, List.set_cons_zero, List.set_cons_succ]
                refine wpQuiet_step (fun K hK => ?_)
                refine if_pos_mpr (by kernel_rfl) ⟨.bool false, fun Y hY => ?_, hK _ ?_⟩
                · have cY := (HCC.out Y hY.old).1
                  go_simp
                clear hK K
                try simp only [Act.put, List.getElem_toArray, List.getElem_cons_succ, List.getElem_cons_zero, List.getElem?_toArray, List.getElem?_cons_succ, List.getElem?_cons_zero, List.setIfInBounds_toArray, List.set_cons_zero, List.set_cons_succ]
                refine wpQuiet_step (fun K hK => ?_)
                go_simp
                refine ⟨.bool false, fun _ _ => rfl, hidAct (fun a0 h0 => ?_)⟩
                refine hK _ (wpQuiet_step (fun K hK => ?_))
                refine if_false_mpr (by rw [h0]; kernel_rfl) (hidAct (fun a1 h1 => hK _ (wpQuiet_step (fun K hK => ?_))))
                refine if_false_mpr (by rw [h1, h0]; kernel_rfl) (hidAct (fun a2 h2 => hK _ (wpQuiet_step (fun K hK => ?_))))
                refine if_false_mpr (by rw [h2, h1, h0]; kernel_rfl) (hidAct (fun a3 h3 => hK _ (wpQuiet_step (fun K hK => ?_))))
                refine if_false_mpr (by rw [h3, h2, h1, h0]; kernel_rfl) (hidAct (fun a4 h4 => hK _ (wpQuiet_step (fun K hK => ?_))))
                refine if_false_mpr (by rw [h4, h3, h2, h1, h0]; kernel_rfl) (hidAct (fun a5 h5 => hK _ (wpQuiet_step (fun K hK => ?_))))
                refine if_false_mpr (by rw [h5, h4, h3, h2, h1, h0]; kernel_rfl) (hidAct (fun a6 h6 => hK _ (wpQuiet_step (fun K hK => ?_))))
                refine if_false_mpr (by rw [h6, h5, h4, h3, h2, h1, h0]; kernel_rfl) (hidAct (fun a7 h7 => hK _ (wpQuiet_step (fun K hK => ?_))))
                refine if_false_mpr (by rw [h7, h6, h5, h4, h3, h2, h1, h0]; kernel_rfl) (hidAct (fun a8 h8 => hK _ (wpQuiet_step (fun K hK => ?_))))
                refine if_false_mpr (by rw [h8, h7, h6, h5, h4, h3, h2, h1, h0]; kernel_rfl) (hidAct (fun a9 h9 => hK _ (wpQuiet_step (fun K hK => ?_))))
                refine if_false_mpr (by rw [h9, h8, h7, h6, h5, h4, h3, h2, h1, h0]; kernel_rfl) (hidAct (fun a10 h10 => hK _ (wpQuiet_step (fun K hK => ?_))))
                refine if_false_mpr (by rw [h10, h9, h8, h7, h6, h5, h4, h3, h2, h1, h0]; kernel_rfl) (hidAct (fun a11 h11 => hK _ (wpQuiet_step (fun K hK => ?_))))
                refine if_false_mpr (by rw [h11, h10, h9, h8, h7, h6, h5, h4, h3, h2, h1, h0]; kernel_rfl) (hidAct (fun a12 h12 => hK _ (wpQuiet_step (fun K hK => ?_))))
                refine if_false_mpr (by rw [h12, h11, h10, h9, h8, h7, h6, h5, h4, h3, h2, h1, h0]; kernel_rfl) (hidAct (fun a13 h13 => hK _ (wpQuiet_step (fun K hK => ?_))))
                refine if_false_mpr (by rw [h13, h12, h11, h10, h9, h8, h7, h6, h5, h4, h3, h2, h1, h0]; kernel_rfl) (hidAct (fun a14 h14 => hK _ (wpQuiet_step (fun K hK => ?_))))
                subst h14
                subst h13
                subst h12
                subst h11
                subst h10
                subst h9
                subst h8
                subst h7
                subst h6
                subst h5
                subst h4
                subst h3
                subst h2
                subst h1
                subst h0
                go_simp
                first | refine hK _ ?_ | refine ⟨_, fun _ _ => rfl, hK _ ?_⟩
                try simp only [Act.put, List.getElem_toArray, List.getElem_cons_succ, List.getElem_cons_zero, List.getElem?_toArray, List.getElem?_cons_succ, List.getElem?_cons_zero, List.setIfInBounds_toArray, List.set_cons_zero, List.set_cons_succ]
                intro w9 h9
                have H9 : Hid (TS q W ⟨ga, q, one, X2, X2, u9⟩ ⟨gb, q + 1, two, Y2, Y2, u10⟩ w9) := h9
                clear h9 HT3
                go_wp2_with fail
                go_roundw
                case rel => exact ⟨i + 1, X2, Y2, HIN.out.1, by go_num, HX2.out, H9.out⟩
                case measure => have := HIN.out; simp only [intOf]; omega
              · refine wp_region_quiet_in (C := fun Y => TS q W ⟨ga, q, one, X2, X2, u9⟩ ⟨gb, q + 1, two, Y2, Y2, u10⟩ Y) (by kernel_rfl) (by kernel_rfl) (TS.below HT3.out (below_drew _)) ?_
                refine wpQuiet_step (fun K hK => ?_)
                go_simp
                first | refine hK _ ?_ | refine ⟨_, fun _ _ => rfl, hK _ ?_⟩
                clear hK K
                try simp only [Act.put, List.getElem_toArray, List.getElem_cons_succ, List.getElem_cons_zero, List.getElem?_toArray, List.getElem?_cons_succ, List.getElem?_cons_zero, List.setIfInBounds_toArray, List.set_cons_zero, List.set_cons_succ]
                refine wpQuiet_step (fun K hK => ?_)
                go_simp
                first | refine hK _ ?_ | refine ⟨_, fun _ _ => rfl, hK _ ?_⟩
                clear hK K
                try simp only [Act.put, List.getElem_toArray, List.getElem_cons_succ, List.getElem_cons_zero, List.getElem?_toArray, List.getElem?_cons_succ, List.getElem?_cons_zero, List.setIfInBounds_toArray, List.set_cons_zero, List.set_cons_succ]
                refine wpQuiet_step (fun K hK => ?_)
                go_simp
                first | refine hK _ ?_ | refine ⟨_, fun _ _ => rfl, hK _ ?_⟩
                clear hK K
                try simp only [Act.put, List.getElem_toArray, List.getElem_cons_succ, List.getElem_cons_zero, List.getElem?_toArray, List.getElem?_cons_succ, List.getElem?_cons_zero, List.setIfInBounds_toArray, List.set_cons_zero, List.set_cons_succ]
                refine wpQuiet_step (fun K hK => ?_)
                go_simp
                first | refine hK _ ?_ | refine ⟨_, fun _ _ => rfl, hK _ ?_⟩
                clear hK K
                try simp only [Act.put, List.getElem_toArray, List.getElem_cons_succ, List.getElem_cons_zero, List.getElem?_toArray, List.getElem?_cons_succ, List.getElem?_cons_zero, List.setIfInBounds_toArray, List.set_cons_zero, List.set_cons_succ]
                refine wpQuiet_step (fun K hK => ?_)
                refine if_pos_mpr (by kernel_rfl) ⟨.bool true, fun Y hY => ?_, hK _ ?_⟩
                · have cY := (HCC.out Y hY.old).1
                  go_simp
                clear hK K
                try simp only [Act.put, List.getElem_toArray, List.getElem_cons_succ, List.getElem_cons_zero, List.getElem?_toArray, List.getElem?_cons_succ, List.getElem?_cons_zero, List.setIfInBounds_toArray, List.set_cons_zero, List.set_cons_succ]
                refine wpQuiet_step (fun K hK => ?_)
                go_simp
                first | refine hK _ ?_ | refine ⟨_, fun _ _ => rfl, hK _ ?_⟩
                clear hK K
                try simp only [Act.put, List.getElem_toArray, List.getElem_cons_succ, List.getElem_cons_zero, List.getElem?_toArray, List.getElem?_cons_succ, List.getElem?_cons_zero, List.setIfInBounds_toArray, List.set_cons_zero, List.set_cons_succ]
                refine wpQuiet_step (fun K hK => ?_)
                go_simp
                first | refine hK _ ?_ | refine ⟨_, fun _ _ => rfl, hK _ ?_⟩
                clear hK K
                try simp only [Act.put, List.getElem_toArray, List.getElem_cons_succ, List.getElem_cons_zero, List.getElem?_toArray, List.getElem?_cons_succ, List.getElem?_cons_zero, List.setIfInBounds_toArray, List.set_cons_zero, List.set_cons_succ]
                refine wpQuiet_step (fun K hK => ?_)
                refine if_pos_mpr (by kernel_rfl) ⟨.agg (VI .u8 (mtag one X2)), fun Y hY => ?_, hK _ ?_⟩
                · go_simp
                  exact HTA.out Y hY
                clear hK K
                try simp only [Act.put, List.getElem_toArray, List.getElem_cons_succ, List.getElem_cons_zero, List.getElem?_toArray, List.getElem?_cons_succ, List.getElem?_cons_zero, List.setIfInBounds_toArray, List.set_cons_zero, List.set_cons_succ]
                refine wpQuiet_step (fun K hK => ?_)
                refine if_pos_mpr (by kernel_rfl) ⟨.agg (VI .u8 one), fun Y hY => quietAt_load_row 23 (.tmp 3) rfl q rfl 23 (VI .u8 one) (0, 0) _ ((HRK.out Y hY).1) Try.underlying23 rfl HI1.out, hK _ ?_⟩
                clear hK K
                try simp only [Act.put, List.getElem_toArray, List.getElem_cons_succ, List.getElem_cons_zero, List.getElem?_toArray, List.getElem?_cons_succ, List.getElem?_cons_zero, List.setIfInBounds_toArray, List.set_cons_zero, List.set_cons_succ]
                refine wpQuiet_step (fun K hK => ?_)
                go_simp
                first | refine hK _ ?_ | refine ⟨_, fun _ _ => rfl, hK _ ?_⟩
                clear hK K
                try simp only [Act.put, List.getElem_toArray, List.getElem_cons_succ, List.getElem_cons_zero, List.getElem?_toArray, List.getElem?_cons_succ, List.getElem?_cons_zero, List.setIfInBounds_toArray, List.set_cons_zero, List.set_cons_succ]
                refine wpQuiet_step (fun K hK => ?_)
                refine if_pos_mpr (by kernel_rfl) ⟨.agg (VI .u8 (mtag one X2)), fun Y hY => ?_, hK _ ?_⟩
                · go_simp
                  exact HRA.out Y hY
                clear hK K
                try simp only [Act.put, List.getElem_toArray, List.getElem_cons_succ, List.getElem_cons_zero, List.getElem?_toArray, List.getElem?_cons_succ, List.getElem?_cons_zero, List.setIfInBounds_toArray, List.set_cons_zero, List.set_cons_succ]
                refine wpQuiet_step (fun K hK => ?_)
                go_simp
                first | refine hK _ ?_ | refine ⟨_, fun _ _ => rfl, hK _ ?_⟩
                clear hK K
                try simp only [Act.put, List.getElem_toArray, List.getElem_cons_succ, List.getElem_cons_zero, List.getElem?_toArray, List.getElem?_cons_succ, List.getElem?_cons_zero, List.setIfInBounds_toArray, List.set_cons_zero, List.set_cons_succ]
                refine wpQuiet_step (fun K hK => ?_)
                go_simp
                first | refine hK _ ?_ | refine ⟨_, fun _ _ => rfl, hK _ ?_⟩
                clear hK K
                try simp only [Act.put, List.getElem_toArray, List.getElem_cons_succ, List.getElem_cons_zero, List.getElem?_toArray, List.getElem?_cons_succ, List.getElem?_cons_zero, List.setIfInBounds_toArray, List.set_cons_zero, List.set_cons_succ]
                refine wpQuiet_step (fun K hK => ?_)
                go_simp
                first | refine hK _ ?_ | refine ⟨_, fun _ _ => rfl, hK _ ?_⟩
                clear hK K
                try simp only [Act.put, List.getElem_toArray, List.getElem_cons_succ, List.getElem_cons_zero, List.getElem?_toArray, List.getElem?_cons_succ, List.getElem?_cons_zero, List.setIfInBounds_toArray, List.set_cons_zero, List.set_cons_succ]
                refine wpQuiet_step (fun K hK => ?_)
                refine if_pos_mpr (by kernel_rfl) ⟨.agg (VI .u8 (mtag two Y2)), fun Y hY => ?_, hK _ ?_⟩
                · go_simp
                  exact HTB.out Y hY
                clear hK K
                try simp only [Act.put, List.getElem_toArray, List.getElem_cons_succ, List.getElem_cons_zero, List.getElem?_toArray, List.getElem?_cons_succ, List.getElem?_cons_zero, List.setIfInBounds_toArray, List.set_cons_zero, List.set_cons_succ]
                refine wpQuiet_step (fun K hK => ?_)
                refine if_pos_mpr (by kernel_rfl) ⟨.agg (VI .u8 two), fun Y hY => quietAt_load_row 23 (.tmp 4) rfl (q + 1) rfl 23 (VI .u8 two) (0, 0) _ ((HRK.out Y hY).2) Try.underlying23 rfl HI2.out, hK _ ?_⟩
                clear hK K
                try simp only [Act.put, List.getElem_toArray, List.getElem_cons_succ, List.getElem_cons_zero, List.getElem?_toArray, List.getElem?_cons_succ, List.getElem?_cons_zero, List.setIfInBounds_toArray, List.set_cons_zero, List.set_cons_succ]
                refine wpQuiet_step (fun K hK => ?_)
                go_simp
                first | refine hK _ ?_ | refine ⟨_, fun _ _ => rfl, hK _ ?_⟩
                clear hK K
                try simp only [Act.put, List.getElem_toArray, List.getElem_cons_succ, List.getElem_cons_zero, List.getElem?_toArray, List.getElem?_cons_succ, List.getElem?_cons_zero, List.setIfInBounds_toArray, List.set_cons_zero, List.set_cons_succ]
                refine wpQuiet_step (fun K hK => ?_)
                refine if_pos_mpr (by kernel_rfl) ⟨.agg (VI .u8 (mtag two Y2)), fun Y hY => ?_, hK _ ?_⟩
                · go_simp
                  exact HRB.out Y hY
                clear hK K
                try simp only [Act.put, List.getElem_toArray, List.getElem_cons_succ, List.getElem_cons_zero, List.getElem?_toArray, List.getElem?_cons_succ, List.getElem?_cons_zero, List.setIfInBounds_toArray, List.set_cons_zero, List.set_cons_succ]
                refine wpQuiet_step (fun K hK => ?_)
                go_simp
                first | refine hK _ ?_ | refine ⟨_, fun _ _ => rfl, hK _ ?_⟩
                clear hK K
                try simp only [Act.put, List.getElem_toArray, List.getElem_cons_succ, List.getElem_cons_zero, List.getElem?_toArray, List.getElem?_cons_succ, List.getElem?_cons_zero, List.setIfInBounds_toArray, List.set_cons_zero, List.set_cons_succ]
                refine wpQuiet_step (fun K hK => ?_)
                go_simp
                first | refine hK _ ?_ | refine ⟨_, fun _ _ => rfl, hK _ ?_⟩
                clear hK K
                try simp only [Act.put, List.getElem_toArray, List.getElem_cons_succ, List.getElem_cons_zero, List.getElem?_toArray, List.getElem?_cons_succ, List.getElem?_cons_zero, List.setIfInBounds_toArray, List.set_cons_zero, List.set_cons_succ]
                refine wpQuiet_step (fun K hK => ?_)
                go_simp
                first | refine hK _ ?_ | refine ⟨_, fun _ _ => rfl, hK _ ?_⟩
                clear hK K
                try simp only [Act.put, List.getElem_toArray, List.getElem_cons_succ, List.getElem_cons_zero, List.getElem?_toArray, List.getElem?_cons_succ, List.getElem?_cons_zero, List.setIfInBounds_toArray, List.set_cons_zero, List.set_cons_succ]
                intro w9 h9
                have H9 : Hid (TS q W ⟨ga, q, one, X2, X2, u9⟩ ⟨gb, q + 1, two, Y2, Y2, u10⟩ w9) := h9
                clear h9 HT3
                go_wp2_with fail
                go_roundw
                case rel => exact ⟨i + 1, X2, Y2, HIN.out.1, by go_num, HX2.out, H9.out⟩
                case measure => have := HIN.out; simp only [intOf]; omega
      · have b1 : ¬ (i : Int) < (n : Int) := by omega
        have EQA : ∀ w, (Op.equalIn 10000 36 (.agg (VI .u8 (mtag one X))) (.agg (VI .u8 (mtag one X)))).run Try.prog w = .ok true w := fun w => by
          rw [eqT (mtag_len _ _) (mtag_len _ _), beq_self_eq_true]
        have EQB : ∀ w, (Op.equalIn 10000 36 (.agg (VI .u8 (mtag two Y))) (.agg (VI .u8 (mtag two Y)))).run Try.prog w = .ok true w := fun w => by
          rw [eqT (mtag_len _ _) (mtag_len _ _), beq_self_eq_true]
        have HX2 : Hid (X.length + Y.length ≤ 131072 ∧ Byt X ∧ Byt Y) := HXY.out
        have HTA : Hid (∀ Z, TS q W ⟨ga, q, one, X, X, (.slice ax tx cx)⟩ ⟨gb, q + 1, two, Y, Y, (.slice ay ty cy)⟩ Z → Calls Try.prog 13 #[.pointer (some ⟨ga, 0, none⟩)] Z fun e w2 => e = .returned (.agg (VI .u8 (mtag one X))) ∧ TS q W ⟨ga, q, one, X, X, (.slice ax tx cx)⟩ ⟨gb, q + 1, two, Y, Y, (.slice ay ty cy)⟩ w2) := by
          have : ∀ Z, TS q W ⟨ga, q, one, X, X, (.slice ax tx cx)⟩ ⟨gb, q + 1, two, Y, Y, (.slice ay ty cy)⟩ Z → Calls Try.prog 13 #[.pointer (some ⟨ga, 0, none⟩)] Z fun e w2 => e = .returned (.agg (VI .u8 (mtag one X))) ∧ TS q W ⟨ga, q, one, X, X, (.slice ax tx cx)⟩ ⟨gb, q + 1, two, Y, Y, (.slice ay ty cy)⟩ w2 := fun Z hZ => TS.tag (x := ⟨ga, q, one, X, X, (.slice ax tx cx)⟩) hZ HK.out.1 HX2.out.2.1
          exact this
        have HRA : Hid (∀ Z, TS q W ⟨ga, q, one, X, X, (.slice ax tx cx)⟩ ⟨gb, q + 1, two, Y, Y, (.slice ay ty cy)⟩ Z → Calls Try.prog 14 #[.agg (VI .u8 one), (.slice ax tx cx)] Z fun e w2 => e = .returned (.agg (VI .u8 (mtag one X))) ∧ TS q W ⟨ga, q, one, X, X, (.slice ax tx cx)⟩ ⟨gb, q + 1, two, Y, Y, (.slice ay ty cy)⟩ w2) := by
          have : ∀ Z, TS q W ⟨ga, q, one, X, X, (.slice ax tx cx)⟩ ⟨gb, q + 1, two, Y, Y, (.slice ay ty cy)⟩ Z → Calls Try.prog 14 #[.agg (VI .u8 one), (.slice ax tx cx)] Z fun e w2 => e = .returned (.agg (VI .u8 (mtag one X))) ∧ TS q W ⟨ga, q, one, X, X, (.slice ax tx cx)⟩ ⟨gb, q + 1, two, Y, Y, (.slice ay ty cy)⟩ w2 := fun Z hZ => TS.rtag (x := ⟨ga, q, one, X, X, (.slice ax tx cx)⟩) hZ HK.out.1 HX2.out.2.1 (by have := HX2.out.1; show X.length ≤ 1000000; omega)
          exact this
        have HTB : Hid (∀ Z, TS q W ⟨ga, q, one, X, X, (.slice ax tx cx)⟩ ⟨gb, q + 1, two, Y, Y, (.slice ay ty cy)⟩ Z → Calls Try.prog 13 #[.pointer (some ⟨gb, 0, none⟩)] Z fun e w2 => e = .returned (.agg (VI .u8 (mtag two Y))) ∧ TS q W ⟨ga, q, one, X, X, (.slice ax tx cx)⟩ ⟨gb, q + 1, two, Y, Y, (.slice ay ty cy)⟩ w2) := by
          have : ∀ Z, TS q W ⟨ga, q, one, X, X, (.slice ax tx cx)⟩ ⟨gb, q + 1, two, Y, Y, (.slice ay ty cy)⟩ Z → Calls Try.prog 13 #[.pointer (some ⟨gb, 0, none⟩)] Z fun e w2 => e = .returned (.agg (VI .u8 (mtag two Y))) ∧ TS q W ⟨ga, q, one, X, X, (.slice ax tx cx)⟩ ⟨gb, q + 1, two, Y, Y, (.slice ay ty cy)⟩ w2 := fun Z hZ => (TS.tag (x := ⟨gb, q + 1, two, Y, Y, (.slice ay ty cy)⟩) hZ.swap HK.out.2 HX2.out.2.2).mono (fun e w2 hh => ⟨hh.1, hh.2.swap⟩)
          exact this
        have HRB : Hid (∀ Z, TS q W ⟨ga, q, one, X, X, (.slice ax tx cx)⟩ ⟨gb, q + 1, two, Y, Y, (.slice ay ty cy)⟩ Z → Calls Try.prog 14 #[.agg (VI .u8 two), (.slice ay ty cy)] Z fun e w2 => e = .returned (.agg (VI .u8 (mtag two Y))) ∧ TS q W ⟨ga, q, one, X, X, (.slice ax tx cx)⟩ ⟨gb, q + 1, two, Y, Y, (.slice ay ty cy)⟩ w2) := by
          have : ∀ Z, TS q W ⟨ga, q, one, X, X, (.slice ax tx cx)⟩ ⟨gb, q + 1, two, Y, Y, (.slice ay ty cy)⟩ Z → Calls Try.prog 14 #[.agg (VI .u8 two), (.slice ay ty cy)] Z fun e w2 => e = .returned (.agg (VI .u8 (mtag two Y))) ∧ TS q W ⟨ga, q, one, X, X, (.slice ax tx cx)⟩ ⟨gb, q + 1, two, Y, Y, (.slice ay ty cy)⟩ w2 := fun Z hZ => (TS.rtag (x := ⟨gb, q + 1, two, Y, Y, (.slice ay ty cy)⟩) hZ.swap HK.out.2 HX2.out.2.2 (by have := HX2.out.1; show Y.length ≤ 1000000; omega)).mono (fun e w2 hh => ⟨hh.1, hh.2.swap⟩)
          exact this
        have HRK : Hid (∀ Z, TS q W ⟨ga, q, one, X, X, (.slice ax tx cx)⟩ ⟨gb, q + 1, two, Y, Y, (.slice ay ty cy)⟩ Z → Z.heap[q]? = some (.cells (VI .u8 one) 23) ∧ Z.heap[q + 1]? = some (.cells (VI .u8 two) 23)) := by
          have : ∀ Z, TS q W ⟨ga, q, one, X, X, (.slice ax tx cx)⟩ ⟨gb, q + 1, two, Y, Y, (.slice ay ty cy)⟩ Z → Z.heap[q]? = some (.cells (VI .u8 one) 23) ∧ Z.heap[q + 1]? = some (.cells (VI .u8 two) 23) := fun Z hZ => ⟨TS.key hZ, TS.key hZ.swap⟩
          exact this
        go_upto_region 26 with fail
        refine wp_region_quiet_in (C := fun Z => TS q W ⟨ga, q, one, X, X, .slice ax tx cx⟩ ⟨gb, q + 1, two, Y, Y, .slice ay ty cy⟩ Z) (by kernel_rfl) (by kernel_rfl) (TS.below HTS.out (below_drew _)) ?_
        refine wpQuiet_step (fun K hK => ?_)
        go_simp
        first | refine hK _ ?_ | refine ⟨_, fun _ _ => rfl, hK _ ?_⟩
        clear hK K
        try simp only [Act.put, List.getElem_toArray, List.getElem_cons_succ, List.getElem_cons_zero, List.getElem?_toArray, List.getElem?_cons_succ, List.getElem?_cons_zero, List.setIfInBounds_toArray, List.set_cons_zero, List.set_cons_succ]
        refine wpQuiet_step (fun K hK => ?_)
        refine if_pos_mpr (by kernel_rfl) ⟨.agg (VI .u8 (mtag one X)), fun Y hY => ?_, hK _ ?_⟩
        · go_simp
          exact HTA.out Y hY
        clear hK K
        try simp only [Act.put, List.getElem_toArray, List.getElem_cons_succ, List.getElem_cons_zero, List.getElem?_toArray, List.getElem?_cons_succ, List.getElem?_cons_zero, List.setIfInBounds_toArray, List.set_cons_zero, List.set_cons_succ]
        refine wpQuiet_step (fun K hK => ?_)
        refine if_pos_mpr (by kernel_rfl) ⟨.agg (VI .u8 one), fun Y hY => quietAt_load_row 23 (.tmp 3) rfl q rfl 23 (VI .u8 one) (0, 0) _ ((HRK.out Y hY).1) Try.underlying23 rfl HI1.out, hK _ ?_⟩
        clear hK K
        try simp only [Act.put, List.getElem_toArray, List.getElem_cons_succ, List.getElem_cons_zero, List.getElem?_toArray, List.getElem?_cons_succ, List.getElem?_cons_zero, List.setIfInBounds_toArray, List.set_cons_zero, List.set_cons_succ]
        refine wpQuiet_step (fun K hK => ?_)
        go_simp
        first | refine hK _ ?_ | refine ⟨_, fun _ _ => rfl, hK _ ?_⟩
        clear hK K
        try simp only [Act.put, List.getElem_toArray, List.getElem_cons_succ, List.getElem_cons_zero, List.getElem?_toArray, List.getElem?_cons_succ, List.getElem?_cons_zero, List.setIfInBounds_toArray, List.set_cons_zero, List.set_cons_succ]
        refine wpQuiet_step (fun K hK => ?_)
        refine if_pos_mpr (by kernel_rfl) ⟨.agg (VI .u8 (mtag one X)), fun Y hY => ?_, hK _ ?_⟩
        · go_simp
          exact HRA.out Y hY
        clear hK K
        try simp only [Act.put, List.getElem_toArray, List.getElem_cons_succ, List.getElem_cons_zero, List.getElem?_toArray, List.getElem?_cons_succ, List.getElem?_cons_zero, List.setIfInBounds_toArray, List.set_cons_zero, List.set_cons_succ]
        refine wpQuiet_step (fun K hK => ?_)
        go_simp
        first | refine hK _ ?_ | refine ⟨_, fun _ _ => rfl, hK _ ?_⟩
        clear hK K
        try simp only [Act.put, List.getElem_toArray, List.getElem_cons_succ, List.getElem_cons_zero, List.getElem?_toArray, List.getElem?_cons_succ, List.getElem?_cons_zero, List.setIfInBounds_toArray, List.set_cons_zero, List.set_cons_succ]
        refine wpQuiet_step (fun K hK => ?_)
        go_simp
        first | refine hK _ ?_ | refine ⟨_, fun _ _ => rfl, hK _ ?_⟩
        clear hK K
        try simp only [Act.put, List.getElem_toArray, List.getElem_cons_succ, List.getElem_cons_zero, List.getElem?_toArray, List.getElem?_cons_succ, List.getElem?_cons_zero, List.setIfInBounds_toArray, List.set_cons_zero, List.set_cons_succ]
        refine wpQuiet_step (fun K hK => ?_)
        go_simp
        first | refine hK _ ?_ | refine ⟨_, fun _ _ => rfl, hK _ ?_⟩
        clear hK K
        try simp only [Act.put, List.getElem_toArray, List.getElem_cons_succ, List.getElem_cons_zero, List.getElem?_toArray, List.getElem?_cons_succ, List.getElem?_cons_zero, List.setIfInBounds_toArray, List.set_cons_zero, List.set_cons_succ]
        refine wpQuiet_step (fun K hK => ?_)
        refine if_pos_mpr (by kernel_rfl) ⟨.agg (VI .u8 (mtag two Y)), fun Y hY => ?_, hK _ ?_⟩
        · go_simp
          exact HTB.out Y hY
        clear hK K
        try simp only [Act.put, List.getElem_toArray, List.getElem_cons_succ, List.getElem_cons_zero, List.getElem?_toArray, List.getElem?_cons_succ, List.getElem?_cons_zero, List.setIfInBounds_toArray, List.set_cons_zero, List.set_cons_succ]
        refine wpQuiet_step (fun K hK => ?_)
        refine if_pos_mpr (by kernel_rfl) ⟨.agg (VI .u8 two), fun Y hY => quietAt_load_row 23 (.tmp 4) rfl (q + 1) rfl 23 (VI .u8 two) (0, 0) _ ((HRK.out Y hY).2) Try.underlying23 rfl HI2.out, hK _ ?_⟩
        clear hK K
        try simp only [Act.put, List.getElem_toArray, List.getElem_cons_succ, List.getElem_cons_zero, List.getElem?_toArray, List.getElem?_cons_succ, List.getElem?_cons_zero, List.setIfInBounds_toArray, List.set_cons_zero, List.set_cons_succ]
        refine wpQuiet_step (fun K hK => ?_)
        go_simp
        first | refine hK _ ?_ | refine ⟨_, fun _ _ => rfl, hK _ ?_⟩
        clear hK K
        try simp only [Act.put, List.getElem_toArray, List.getElem_cons_succ, List.getElem_cons_zero, List.getElem?_toArray, List.getElem?_cons_succ, List.getElem?_cons_zero, List.setIfInBounds_toArray, List.set_cons_zero, List.set_cons_succ]
        refine wpQuiet_step (fun K hK => ?_)
        refine if_pos_mpr (by kernel_rfl) ⟨.agg (VI .u8 (mtag two Y)), fun Y hY => ?_, hK _ ?_⟩
        · go_simp
          exact HRB.out Y hY
        clear hK K
        try simp only [Act.put, List.getElem_toArray, List.getElem_cons_succ, List.getElem_cons_zero, List.getElem?_toArray, List.getElem?_cons_succ, List.getElem?_cons_zero, List.setIfInBounds_toArray, List.set_cons_zero, List.set_cons_succ]
        refine wpQuiet_step (fun K hK => ?_)
        go_simp
        first | refine hK _ ?_ | refine ⟨_, fun _ _ => rfl, hK _ ?_⟩
        clear hK K
        try simp only [Act.put, List.getElem_toArray, List.getElem_cons_succ, List.getElem_cons_zero, List.getElem?_toArray, List.getElem?_cons_succ, List.getElem?_cons_zero, List.setIfInBounds_toArray, List.set_cons_zero, List.set_cons_succ]
        refine wpQuiet_step (fun K hK => ?_)
        go_simp
        first | refine hK _ ?_ | refine ⟨_, fun _ _ => rfl, hK _ ?_⟩
        clear hK K
        try simp only [Act.put, List.getElem_toArray, List.getElem_cons_succ, List.getElem_cons_zero, List.getElem?_toArray, List.getElem?_cons_succ, List.getElem?_cons_zero, List.setIfInBounds_toArray, List.set_cons_zero, List.set_cons_succ]
        refine wpQuiet_step (fun K hK => ?_)
        go_simp
        first | refine hK _ ?_ | refine ⟨_, fun _ _ => rfl, hK _ ?_⟩
        clear hK K
        try simp only [Act.put, List.getElem_toArray, List.getElem_cons_succ, List.getElem_cons_zero, List.getElem?_toArray, List.getElem?_cons_succ, List.getElem?_cons_zero, List.setIfInBounds_toArray, List.set_cons_zero, List.set_cons_succ]
        refine wpQuiet_step (fun K hK => ?_)
        refine if_pos_mpr (by kernel_rfl) ⟨.bool true, fun Y hY => ?_, hK _ ?_⟩
        · go_simp
          exact (known_any Y).mono (fun e w' hh => ⟨hh.1, hY.below hh.2⟩)
        clear hK K
        try simp only [Act.put, List.getElem_toArray, List.getElem_cons_succ, List.getElem_cons_zero, List.getElem?_toArray, List.getElem?_cons_succ, List.getElem?_cons_zero, List.setIfInBounds_toArray, List.set_cons_zero, List.set_cons_succ]
        refine wpQuiet_step (fun K hK => ?_)
        go_simp
        first | refine hK _ ?_ | refine ⟨_, fun _ _ => rfl, hK _ ?_⟩
        clear hK K
        try simp only [Act.put, List.getElem_toArray, List.getElem_cons_succ, List.getElem_cons_zero, List.getElem?_toArray, List.getElem?_cons_succ, List.getElem?_cons_zero, List.setIfInBounds_toArray, List.set_cons_zero, List.set_cons_succ]
        refine wpQuiet_step (fun K hK => ?_)
        go_simp
        first | refine hK _ ?_ | refine ⟨_, fun _ _ => rfl, hK _ ?_⟩
        clear hK K
        try simp only [Act.put, List.getElem_toArray, List.getElem_cons_succ, List.getElem_cons_zero, List.getElem?_toArray, List.getElem?_cons_succ, List.getElem?_cons_zero, List.setIfInBounds_toArray, List.set_cons_zero, List.set_cons_succ]
        intro w9 h9
        have HF : Hid (Below q W w9) := TS.old h9
        clear h9 HTS
        go_wp2
        go_ret
        exact ⟨rfl, HF.out⟩
  · have b0 : (400 : Int) < (n : Int) := by omega
    have b0' : 400 < n := by omega
    clear e1
    go_enter Try.func6, Try.ntmps6
    go_wp2
    go_ret
    exact ⟨rfl, HB0.out⟩
end Go.Proofs.Ytgfamcadgahiiaa
