import Derived.Test.YtgfamcadgahiiaaMmaw
import Derived.Test.YtgfamcadgahiiaaMmau
namespace Go.Proofs.Ytgfamcadgahiiaa
set_option linter.unusedSimpArgs false
set_option linter.unusedVariables false
open Go.ChangeShapes Go.WideShapes Go.ChangeAt Go.RowKit Go.Pin Go.Prm
theorem wpList_copyX {P : Program} (w : World) {ops : Array Oper} {rest : List Oper} {o : Oper} {a : Act} {Q : Exit → Act → World → Prop} {R : World → Prop} (hgd : o.guard = none) (d s : Operand) (t t' : TypeId)
    (ho : o.op = .call { callee := .builtin .copy, args := #[d, s], argTypes := #[t, t'] }) (v u : Value) (hd : a.eval d = v) (hs : a.eval s = u) {x : Value}
    (hr : ∀ ty, ∃ w', (Builtin.copy_ #[t, t'] ty #[v, u]).run P w = .ok x w' ∧ R w') (h : ∀ w', R w' → wpList P ops Q rest (a.put o.dst x) w') : wpList P ops Q (o :: rest) a w :=
  wpList_plain hgd fun _ hK => by
    obtain ⟨w', h1, h2⟩ := hr o.type
    unfold Oper.wp execOp
    simp only [ho, resolve, invoke, builtin, Sem.run_bind, Sem.run_pure, Result.andThen_ok, List.map_toArray, List.map_cons, List.map_nil, hd, hs, h1]
    exact hK _ _ (h w' h2)
def lenV : Value → Nat
  | .slice _ n _ => n
  | _ => 0
/-- the state between two steps -/
def PL (q : Nat) (W : World) (R g : Nat) (key : List Int) (i n : Nat) (va ve vh vd : Value) (w' : World) : Prop :=
  ∃ (A dk : List Int) (p : Nat) (L : List (Int × Int)), i ≤ n ∧ (A.length ≤ 131072 ∧ Byt A) ∧ vh = .int .i64 ((A.length % 16 : Nat) : Int) ∧ vd = .slice (some ⟨p, 0, none⟩) dk.length dk.length ∧ (dk.length ≤ 300000 ∧ L.length ≤ 25 * i + A.length) ∧ PS q W R g p key A A dk va ve L L [] w'
set_option maxRecDepth 100000 in
set_option maxHeartbeats 32000000 in
theorem plays_walk (key : List Int) (hk : Key32 key) (S : List Stp) (a : Option Addr) (cap : Nat) (W : World) (hS : Scr W a S) (hb : ∀ q ∈ S, Byt q.2 ∧ q.2.length ≤ maxLen) :
    Calls Try.prog 3 #[.agg (VI .u8 key), .slice a S.length cap] W fun e w' => e = .returned (.bool true) ∧ Below W.heap.size W w' := by
  have e1 := (ev_nil' W).new (.cells (VI .u8 key) 23)
  obtain ⟨q, hq⟩ : ∃ q, W.heap.size = q := ⟨_, rfl⟩
  have HSC : Hid (∀ i, i < S.length → ∃ b o u, a = some ⟨b, o, none⟩ ∧ (∀ Y, Below q W Y → Y.cell? ⟨b, o + i * 2, none⟩ = some (.bool (S.getD i (false, [])).1) ∧ Y.cell? ⟨b, o + i * 2 + 1, none⟩ = some u) ∧ (∀ bx, Src q W bx u (S.getD i (false, [])).2) ∧ Byt (S.getD i (false, [])).2 ∧ (S.getD i (false, [])).2.length ≤ maxLen) := fun i hi => scr_at hq hS hb i hi
  obtain ⟨W0, hW0⟩ : ∃ V, W.alloc (.cells (VI .u8 key) 23) = V := ⟨_, rfl⟩
  rw [hq, hW0] at e1
  rw [hq]
  obtain ⟨n, hn⟩ : ∃ n, S.length = n := ⟨_, rfl⟩
  rw [hn] at HSC ⊢
  have HK : Hid (Key32 key) := hk
  have HI : Hid ((Try.prog.info? 23).map (·.size) = some (VI .u8 key).size) := by
    have : (Try.prog.info? 23).map (·.size) = some (VI .u8 key).size := by rw [VI_size, hk.len]; exact infoK
    exact this
  have HJ : Hid ((Try.prog.info? 23).map (·.size) = some key.length) := by
    have : (Try.prog.info? 23).map (·.size) = some key.length := by rw [hk.len]; exact infoK
    exact this
  have HB0 : Hid (Below q W W0) := e1.old
  by_cases hbig : n ≤ 400
  · have b0 : ¬ (400 : Int) < (n : Int) := by omega
    have b0' : ¬ 400 < n := by omega
    have HB : Hid (n ≤ 400) := hbig
    obtain ⟨R, hR⟩ : ∃ R, W0.heap.size = R := ⟨_, rfl⟩
    have e2 : Ev q W (.pointer (some ⟨R, 0, none⟩)) [] [(q, .cells (VI .u8 key) 23)] (W0.alloc (.cells #[.slice none 0 0, .int .i64 0] 78)) := by
      have := e1.withRec
      rw [hR] at this
      exact this
    have CN : Hid (Calls Try.prog 9 #[] W0 fun e w' => e = .returned (.pointer (some ⟨R, 0, none⟩)) ∧ w' = W0.alloc (.cells #[.slice none 0 0, .int .i64 0] 78)) := by
      have := new_any W0
      rw [hR] at this
      exact this
    obtain ⟨W1, hW1⟩ : ∃ V, W0.alloc (.cells #[.slice none 0 0, .int .i64 0] 78) = V := ⟨_, rfl⟩
    rw [hW1] at e2 CN
    have HLD : Hid (W1.rangeAt q 0 (key.map (Value.int .u8))) := row_range (e2.row mem0)
    have HQ1 : Hid (q < W1.heap.size) := e2.lt mem0
    have CM : Hid (Calls Try.prog 10 #[(.pointer (some ⟨R, 0, none⟩)), .agg (VI .u8 key)] W1 fun e w' => ∃ g, e = .returned (.pointer (some ⟨g, 0, none⟩)) ∧ W1.heap.size ≤ g ∧ Ev q W (.pointer (some ⟨R, 0, none⟩)) [] [(g, mst (.pointer (some ⟨R, 0, none⟩)) key []), (q, .cells (VI .u8 key) 23)] w') := mnew_any e2 hk
    clear e1 e2 hS hb hn hbig hk hW1 hR
    go_enter Try.func3, Try.ntmps3
    go_upto_region 5 with (first | (go_at_call 9; refine Calls.mono CN.out ?_; rintro e V1 ⟨rfl, hV⟩; obtain rfl := hV) | (go_at_call 10; refine Calls.mono CM.out ?_; rintro e W2 ⟨g, rfl, hg, h2⟩; have H2 : Hid _ := h2; have HG : Hid _ := hg; clear h2 hg) | (with_reducible refine at_list ?_; first | (refine load_midI rfl 23 (.tmp 2) rfl q 0 rfl .u8 key _ HLD.out Try.underlying23 rfl HJ.out ?_)))
    have CT : Hid (Calls Try.prog 11 #[(.pointer (some ⟨R, 0, none⟩))] W2 fun e w' => e = .returned (.int .i64 0) ∧ w' = W2) := v_total H2.out
    clear CN CM HLD hW0 hq
    have hmk := mk_b 64 64 rfl (by decide) W2
    have h3 : PL q W R g key 0 n (.slice none 0 0) (.slice none 0 0) (.int .i64 0) (.slice (some ⟨W2.heap.size, 0, none⟩) 64 64) (W2.alloc (.cells (VI .u8 (List.replicate 64 0)) 5)) := by
      refine ⟨[], List.replicate 64 0, W2.heap.size, [], Nat.zero_le _, ⟨by decide, fun x hx => nomatch hx⟩, rfl, by rw [List.length_replicate], ⟨by rw [List.length_replicate]; decide, Nat.zero_le _⟩, [], [], lst_nil _ _, lst_nil _ _, ?_, ?_⟩
      · refine (H2.out.new (.cells (VI .u8 (List.replicate 64 0)) 5)).sub (fun r hr => ?_)
        simp only [List.nil_append, List.mem_cons, List.not_mem_nil, or_false] at hr ⊢
        rcases hr with hr | hr | hr
        · exact .inr (.inl hr)
        · exact .inl hr
        · exact .inr (.inr hr)
      · have k1 := H2.out.lt mem0
        have k2 := H2.out.lt mem1
        have k3 := HG.out
        have k4 := HQ1.out
        simp only [List.nil_append, List.map_cons, List.map_nil, List.nodup_cons, List.mem_cons, List.not_mem_nil, or_false, not_false_eq_true, List.nodup_nil, and_true]
        omega
    obtain ⟨p0, hp0⟩ : ∃ p, W2.heap.size = p := ⟨_, rfl⟩
    obtain ⟨W3, hW3⟩ : ∃ V, W2.alloc (.cells (VI .u8 (List.replicate 64 0)) 5) = V := ⟨_, rfl⟩
    rw [hp0, hW3] at hmk h3
    have H3 : Hid _ := h3
    clear h3 hp0 hW3 H2 HG HQ1
    go_wp2_with (first | (go_at_call 11; refine Calls.mono CT.out ?_; rintro e V4 ⟨rfl, hV⟩; obtain rfl := hV; clear CT))
    go_loopw [7, 8, 9, 10, 11] (fun va ve vh vd vi w' => ∃ i : Nat, vi = .int .i64 (i : Int) ∧ PL q W R g key i n va ve vh vd w') (fun _ _ _ _ vi _ => n - (intOf vi).toNat)
    case atStart => exact ⟨0, rfl, H3.out⟩
    case round =>
      clear H3 hmk
      obtain ⟨i, rfl, A, dk, p, L, hi, hA, rfl, rfl, hdl, hps⟩ := hrel
      obtain ⟨aa, ca, rfl⟩ : ∃ aa ca, u7 = .slice aa A.length ca := hps.slA
      obtain ⟨t, ht⟩ : ∃ t, A.length = t := ⟨_, rfl⟩
      obtain ⟨N, hN⟩ : ∃ N, dk.length = N := ⟨_, rfl⟩
      have HA : Hid (A.length = t ∧ Byt A ∧ t ≤ 131072 ∧ L.length ≤ 25 * i + t ∧ dk.length = N ∧ N ≤ 300000) := ⟨ht, hA.2, by rw [← ht]; exact hA.1, by rw [← ht]; exact hdl.2, hN, by rw [← hN]; exact hdl.1⟩
      rw [ht] at hps ⊢
      rw [hN]
      have HPS : Hid (PS q W R g p key A A dk (.slice aa t ca) u8 L L [] wr) := hps
      clear hA hdl hps ht hN
      by_cases hlt : i < n
      · have b1 : (i : Int) < (n : Int) := by omega
        obtain ⟨b, o, u, rfl, hcc, hsu, hDb, hDm⟩ := HSC.out i hlt
        obtain ⟨D, hD⟩ : ∃ D, (S.getD i (false, [])).2 = D := ⟨_, rfl⟩
        obtain ⟨ask, hask⟩ : ∃ k, (S.getD i (false, [])).1 = k := ⟨_, rfl⟩
        rw [hD] at hsu hDb hDm
        rw [hask] at hcc
        obtain ⟨c1, c2⟩ := hcc wr HPS.out.old
        obtain ⟨au, cu, rfl, _, _⟩ := id (hsu [])
        obtain ⟨m, hm⟩ : ∃ m, D.length = m := ⟨_, rfl⟩
        have HD : Hid (Byt D ∧ D.length = m ∧ (∀ bx, Src q W bx (.slice au m cu) D)) := ⟨hDb, hm, by rw [← hm]; exact hsu⟩
        have HIN : Hid (i < n ∧ n ≤ 400) := ⟨hlt, HB.out⟩
        rw [hm] at c2
        obtain ⟨rx, hrx, hw1, hw2⟩ : ∃ rx, t + rx = 131072 ∧ wrap64 (131072 - (t : Int)) = (rx : Int) ∧ IntKind.i64.wrap (131072 - (t : Int)) = (rx : Int) := by
          have h3 := HA.out.2.2.1
          have k1 := wrapL (m := t) h3
          exact ⟨131072 - t, by omega, by rw [k1.1], by rw [k1.2]⟩
        have HRX : Hid (t + rx = 131072) := hrx
        clear hcc hsu hDb hDm hD hask hm hi hrx
        go_upto_region 15 with fail
        clear c1 c2
        have hps4 := HPS.out.add (w2 := wr.alloc (.cells #[.bool ask, .slice au m cu] 33)) ((Below.refl _ _).alloc (Nat.le_refl _) _) (Nat.le_refl _) (heap_alloc_new wr _)
        obtain ⟨px, hpx⟩ : ∃ px, wr.heap.size = px := ⟨_, rfl⟩
        obtain ⟨W4, hW4⟩ : ∃ V, wr.alloc (.cells #[.bool ask, .slice au m cu] 33) = V := ⟨_, rfl⟩
        rw [hpx, hW4] at hps4 ⊢
        have HP4 : Hid (PS q W R g p key A A dk (.slice aa t ca) u8 L L [(px, Obj.cells #[.bool ask, .slice au m cu] 33)] W4) := hps4
        have HX : Hid (∀ p M A dk va ve L E Y, PS q W R g p key M A dk va ve L E [(px, Obj.cells #[.bool ask, .slice au m cu] 33)] Y → Y.cell? ⟨px, 0, none⟩ = some (.bool ask) ∧ Y.cell? ⟨px, 0 + 1, none⟩ = some (.slice au m cu) ∧ Y.cell? ⟨px, 1, none⟩ = some (.slice au m cu)) := fun p M A dk va ve L E Y h => by
          have hr := h.exR mem0
          refine ⟨?_, ?_, ?_⟩ <;> (rw [cell_of_row Y _ _ _ _ _ hr]; rfl)
        clear hps4 hpx hW4 HPS
        obtain ⟨x0, x1, x2⟩ := HX.out _ _ _ _ _ _ _ _ _ HP4.out
        by_cases hbg : rx < m
        · have b2 : (m : Int) > (rx : Int) := by omega
          have b2' : (rx : Int) < (m : Int) := by omega
          have HP5 : Hid (Below q W W4) := HP4.out.old
          go_wp2
          go_ret
          exact ⟨rfl, HP5.out⟩
        · have b2 : ¬ (m : Int) > (rx : Int) := by omega
          have b2' : ¬ (rx : Int) < (m : Int) := by omega
          have HM : Hid (m ≤ rx ∧ m ≤ 131072) := ⟨by omega, by have := HRX.out; omega⟩
          go_upto_region 17 with fail
          clear hw1 hw2 b2 b2' hbg
          cases ask
          · have hm1 := HM.out.2
            go_upto_region 21 with fail
            clear x0 x1 x2
            go_loopw [10] (fun vd w' => ∃ (p2 : Nat) (dk2 : List Int), vd = .slice (some ⟨p2, 0, none⟩) dk2.length dk2.length ∧ dk2.length ≤ 300000 ∧ PS q W R g p2 key A A dk2 (.slice aa t ca) u8 L L [(px, Obj.cells #[.bool false, .slice au m cu] 33)] w') (fun vd _ => if lenV vd < m + 70 then 1 else 0)
            case atStart => exact ⟨p, dk, by rw [HA.out.2.2.2.2.1], by rw [HA.out.2.2.2.2.1]; exact HA.out.2.2.2.2.2, HP4.out⟩
            case round =>
              clear HP4
              obtain ⟨p2, dk2, rfl, hd2, hps⟩ := hrel
              obtain ⟨N2, hN2⟩ : ∃ N2, dk2.length = N2 := ⟨_, rfl⟩
              rw [hN2] at hd2 ⊢
              have HP2 : Hid (PS q W R g p2 key A A dk2 (.slice aa t ca) u8 L L [(px, Obj.cells #[.bool false, .slice au m cu] 33)] wr) := hps
              have HN2 : Hid (dk2.length = N2 ∧ N2 ≤ 300000) := ⟨hN2, hd2⟩
              obtain ⟨x0, x1, x2⟩ := HX.out _ _ _ _ _ _ _ _ _ hps
              clear hps hN2
              by_cases hsh : N2 < m + 70
              · have b3 : (N2 : Int) < (m : Int) + 70 := by omega
                have hmk := mk_b (2 * m + 70) (2 * (m : Int) + 70) (by omega) (by omega) wr
                have hps5 := HP2.out.desk' (w2 := wr.alloc (.cells (VI .u8 (List.replicate (2 * m + 70) 0)) 5)) (dk' := List.replicate (2 * m + 70) 0) ((Below.refl _ _).alloc (Nat.le_refl _) _) (Nat.le_refl _) (heap_alloc_new wr _)
                obtain ⟨p3, hp3⟩ : ∃ p, wr.heap.size = p := ⟨_, rfl⟩
                obtain ⟨W5, hW5⟩ : ∃ V, wr.alloc (.cells (VI .u8 (List.replicate (2 * m + 70) 0)) 5) = V := ⟨_, rfl⟩
                rw [hp3, hW5] at hmk hps5
                have HP5 : Hid (PS q W R g p3 key A A (List.replicate (2 * m + 70) 0) (.slice aa t ca) u8 L L [(px, Obj.cells #[.bool false, .slice au m cu] 33)] W5) := hps5
                obtain ⟨N3, hN3⟩ : ∃ N3, 2 * m + 70 = N3 := ⟨_, rfl⟩
                rw [hN3] at hmk HP5
                have HN3 : Hid (2 * m + 70 = N3) := hN3
                clear hps5 hp3 hW5 hN3
                go_wp2
                go_roundw
                case rel => exact ⟨p3, List.replicate N3 0, by rw [List.length_replicate], by rw [List.length_replicate]; have := HN3.out; omega, HP5.out⟩
                case measure =>
                  have h1 := HN3.out
                  show (if N3 < m + 70 then 1 else 0) < (if N2 < m + 70 then 1 else 0)
                  rw [if_pos hsh, if_neg (by omega)]; decide
              · have b3 : ¬ (N2 : Int) < (m : Int) + 70 := by omega
                have hrd : RdB wr (.slice au m cu) D := by
                  obtain ⟨a', c', e1, e2, e3⟩ := HD.out.2.2 []
                  injection e1 with e1 e4 e5
                  refine ⟨a', c', by rw [← e1, ← e5, HD.out.2.1], e2, ?_⟩
                  rcases e3 with e3 | ⟨b', o', e6, e7⟩
                  · exact .inl e3
                  · exact .inr ⟨b', o', e6, e7 wr HP2.out.old (fun q hq => nomatch hq)⟩
                have CR : Hid _ := roomy_any wr D au m cu hrd hm1
                obtain ⟨gg, hgg⟩ : ∃ g, wr.heap.size = g := ⟨_, rfl⟩
                rw [hgg] at CR
                have HGG : Hid (wr.heap.size = gg) := hgg
                obtain ⟨K2, hK2⟩ : ∃ K, m + 70 = K := ⟨_, rfl⟩
                rw [hK2] at CR
                have HK2 : Hid (m + 70 = K2 ∧ K2 ≤ N2 ∧ (room D).length = K2) := ⟨hK2, by omega, by rw [room_len, HD.out.2.1]; exact hK2⟩
                clear hrd hgg hK2
                go_upto_region 24 with (first | (go_at_call 15; refine Calls.mono CR.out ?_; rintro e W5 ⟨rfl, h5⟩; have HP5 : Hid (PS q W R g p2 key A A dk2 (.slice aa t ca) u8 L L [(px, Obj.cells #[.bool false, .slice au m cu] 33)] W5) := HP2.out.below (by rw [HGG.out]; exact h5.old); have HG5 : Hid (W5.heap[gg]? = some (.cells (VI .u8 (room D)) 5)) := h5.row mem0; clear h5 CR))
                have HCP : Hid (∀ ty, ∃ w2, (Builtin.copy_ #[30, 30] ty #[.slice (some ⟨p2, 0, none⟩) N2 N2, .slice (some ⟨gg, 0, none⟩) K2 K2]).run Try.prog W5 = .ok (goInt K2) w2 ∧ PS q W R g p2 key A A (room D ++ dk2.drop K2) (.slice aa t ca) u8 L L [(px, Obj.cells #[.bool false, .slice au m cu] 33)] w2) := fun ty => HP5.out.copy HG5.out HN2.out.1 HK2.out.2.2 HK2.out.2.1 ty
                clear x0 x1 x2
                obtain ⟨W6, hr6, h6⟩ := HCP.out 3
                have HP6 : Hid (PS q W R g p2 key A A (room D ++ dk2.drop K2) (.slice aa t ca) u8 L L [(px, Obj.cells #[.bool false, .slice au m cu] 33)] W6) := h6
                clear h6 HCP
                go_upto_region 25 with fail
                clear hr6
                have HDK : Hid ((room D ++ dk2.drop K2).length = N2 ∧ (room D ++ dk2.drop K2).take m = D ∧ (room D ++ dk2.drop K2).take K2 = room D) := by
                  refine ⟨?_, ?_, ?_⟩
                  · rw [List.length_append, List.length_drop, HK2.out.2.2, HN2.out.1]; have := HK2.out.2.1; omega
                  · rw [List.take_append_of_le_length (by rw [HK2.out.2.2, ← HK2.out.1]; omega)]
                    have := room_take D
                    rw [HD.out.2.1] at this
                    exact this
                  · rw [List.take_append_of_le_length (by rw [HK2.out.2.2]; exact Nat.le_refl _), List.take_of_length_le (by rw [HK2.out.2.2]; exact Nat.le_refl _)]
                obtain ⟨dk3, hdk3⟩ : ∃ d, room D ++ dk2.drop K2 = d := ⟨_, rfl⟩
                rw [hdk3] at HP6 HDK
                obtain ⟨x0, x1, x2⟩ := HX.out _ _ _ _ _ _ _ _ _ HP6.out
                have hpre := fun w => run_preS w p2 m N2 N2 (m : Int) rfl (by omega) (by omega)
                have HLB : Hid (L.length ≤ 200000) := by
                  have h1 := HA.out.2.2.2.1
                  have h3 := HIN.out
                  have h4 := HA.out.2.2.1
                  show L.length ≤ 200000
                  omega
                have CW : Hid (Calls Try.prog 16 #[.pointer (some ⟨g, 0, none⟩), .slice (some ⟨p2, 0, none⟩) m N2] W6 fun e w2 => e = .returned (.tuple #[]) ∧ PS q W R g p2 key (A ++ D) A dk3 (.slice aa t ca) u8 (L ++ wlog (t % 16) m) L [(px, Obj.cells #[.bool false, .slice au m cu] 33)] w2) := by
                  have := HP6.out.write (m := m) (N := N2) HK.out HA.out.2.1 HD.out.1 HDK.out.2.1 (by rw [HDK.out.1]; omega) (by omega) (by rw [HD.out.2.1]; have := HLB.out; omega)
                  rw [HA.out.1, HD.out.2.1] at this
                  exact this
                clear hdk3 HP5 HP2 HG5
                go_upto_region 26 with (first | (go_at_call 16; refine Calls.mono CW.out ?_; rintro e W7 ⟨rfl, h7⟩; have HP7 : Hid (PS q W R g p2 key (A ++ D) A dk3 (.slice aa t ca) u8 (L ++ wlog (t % 16) m) L [(px, Obj.cells #[.bool false, .slice au m cu] 33)] W7) := h7; clear h7 CW))
                clear x0 x1 x2 hpre HP6
                have HRD : Hid ((∀ Y, PS q W R g p2 key (A ++ D) A dk3 (.slice aa t ca) u8 (L ++ wlog (t % 16) m) L [(px, Obj.cells #[.bool false, .slice au m cu] 33)] Y → RdB Y (.slice (some ⟨p2, 0, none⟩) K2 N2) (room D)) ∧ (∀ Y, PS q W R g p2 key (A ++ D) A dk3 (.slice aa t ca) u8 (L ++ wlog (t % 16) m) L [(px, Obj.cells #[.bool false, .slice au m cu] 33)] Y → RdB Y (.slice au m cu) D)) := by
                  refine ⟨fun Y hY => ?_, fun Y hY => ?_⟩
                  · refine ⟨some ⟨p2, 0, none⟩, N2, by rw [HK2.out.2.2], by rw [HK2.out.2.2]; exact HK2.out.2.1, .inr ⟨p2, 0, rfl, fun j v hj => ?_⟩⟩
                    rw [cell_of_row Y _ _ _ _ _ hY.desk, Nat.zero_add, ← hj, ← HDK.out.2.2]
                    have hjl : j < K2 := by
                      have := (List.getElem?_eq_some_iff.1 hj).1
                      rw [List.length_map, HK2.out.2.2] at this
                      exact this
                    simp only [VI, List.getElem?_toArray, List.getElem?_map, List.getElem?_take_of_lt hjl]
                  · obtain ⟨a', c', e1, e2, e3⟩ := HD.out.2.2 []
                    injection e1 with e1 e4 e5
                    refine ⟨a', c', by rw [← e1, ← e5, HD.out.2.1], e2, ?_⟩
                    rcases e3 with e3 | ⟨b', o', e6, e7⟩
                    · exact .inl e3
                    · exact .inr ⟨b', o', e6, e7 Y hY.old (fun q hq => nomatch hq)⟩
                have hpre2 := fun w => run_preS w p2 K2 N2 N2 (K2 : Int) rfl HK2.out.2.1 (by have := HK2.out; omega)
                refine wp_region_quiet_in (C := fun Y => PS q W R g p2 key (A ++ D) A dk3 (.slice aa t ca) u8 (L ++ wlog (t % 16) m) L [(px, Obj.cells #[.bool false, .slice au m cu] 33)] Y) (by kernel_rfl) (by kernel_rfl) HP7.out.drew' ?_
                refine wpQuiet_step (fun K hK => ?_)
                go_simp
                first | refine hK _ ?_ | refine ⟨_, fun _ _ => rfl, hK _ ?_⟩
                clear hK K
                try simp only [Act.put, List.getElem_toArray, List.getElem_cons_succ, List.getElem_cons_zero, List.getElem?_toArray, List.getElem?_cons_succ, List.getElem?_cons_zero, List.setIfInBounds_toArray, List.set_cons_zero, List.set_cons_succ]
                refine wpQuiet_step (fun K hK => ?_)
                go_simp
                first | refine hK _ ?_ | refine ⟨_, fun _ _ => rfl, hK _ ?_⟩
                clear hK K
                try simp only [Act.put, List.getElem_toArray, List.getElem_cons_succ, List.getElem_cons_zero, List.getElem?_toArray, List.getElem?_cons_succ, List.getElem?_cons_zero, List.setIfInBounds_toArray, List.set_cons_zero, List.set_cons_succ]
                refine wpQuiet_step (fun K hK => ?_)
                go_simp
                first | refine hK _ ?_ | refine ⟨_, fun _ _ => rfl, hK _ ?_⟩
                clear hK K
                try simp only [Act.put, List.getElem_toArray, List.getElem_cons_succ, List.getElem_cons_zero, List.getElem?_toArray, List.getElem?_cons_succ, List.getElem?_cons_zero, List.setIfInBounds_toArray, List.set_cons_zero, List.set_cons_succ]
                refine wpQuiet_step (fun K hK => ?_)
                go_simp
                first | refine hK _ ?_ | refine ⟨_, fun _ _ => rfl, hK _ ?_⟩
                clear hK K
                try simp only [Act.put, List.getElem_toArray, List.getElem_cons_succ, List.getElem_cons_zero, List.getElem?_toArray, List.getElem?_cons_succ, List.getElem?_cons_zero, List.setIfInBounds_toArray, List.set_cons_zero, List.set_cons_succ]
                refine wpQuiet_step (fun K hK => ?_)
                go_simp
                first | refine hK _ ?_ | refine ⟨_, fun _ _ => rfl, hK _ ?_⟩
                clear hK K
                try simp only [Act.put, List.getElem_toArray, List.getElem_cons_succ, List.getElem_cons_zero, List.getElem?_toArray, List.getElem?_cons_succ, List.getElem?_cons_zero, List.setIfInBounds_toArray, List.set_cons_zero, List.set_cons_succ]
                refine wpQuiet_step (fun K hK => ?_)
                refine if_pos_mpr (by kernel_rfl) ⟨.slice au m cu, fun Y hY => ?_, hK _ ?_⟩
                · have cY := (HX.out _ _ _ _ _ _ _ _ _ hY).2.1; have cY2 := (HX.out _ _ _ _ _ _ _ _ _ hY).2.2
                  go_simp
                clear hK K
                try simp only [Act.put, List.getElem_toArray, List.getElem_cons_succ, List.getElem_cons_zero, List.getElem?_toArray, List.getElem?_cons_succ, List.getElem?_cons_zero, List.setIfInBounds_toArray, List.set_cons_zero, List.set_cons_succ]
                refine wpQuiet_step (fun K hK => ?_)
                refine if_pos_mpr (by kernel_rfl) ⟨.bool true, fun Y hY => ?_, hK _ ?_⟩
                · go_simp
                  exact (stands_any Y D (some ⟨p2, 0, none⟩) au m K2 N2 cu (HRD.out.1 Y hY) (HRD.out.2 Y hY) HM.out.2).mono (fun e w' hh => ⟨hh.1, hY.below hh.2⟩)
                clear hK K
                try simp only [Act.put, List.getElem_toArray, List.getElem_cons_succ, List.getElem_cons_zero, List.getElem?_toArray, List.getElem?_cons_succ, List.getElem?_cons_zero, List.setIfInBounds_toArray, List.set_cons_zero, List.set_cons_succ]
                refine wpQuiet_step (fun K hK => ?_)
                go_simp
                first | refine hK _ ?_ | refine ⟨_, fun _ _ => rfl, hK _ ?_⟩
                clear hK K
                try simp only [Act.put, List.getElem_toArray, List.getElem_cons_succ, List.getElem_cons_zero, List.getElem?_toArray, List.getElem?_cons_succ, List.getElem?_cons_zero, List.setIfInBounds_toArray, List.set_cons_zero, List.set_cons_succ]
                intro w9 h9
                have HP9 : Hid (PS q W R g p2 key (A ++ D) A dk3 (.slice aa t ca) u8 (L ++ wlog (t % 16) m) L [(px, Obj.cells #[.bool false, .slice au m cu] 33)] w9) := h9
                clear h9 HP7 hpre2 HRD
                go_wp2_with fail
                go_loopw [14] (fun vk w' => ∃ (k : Nat) (dk4 : List Int), k ≤ N2 ∧ vk = .int .i64 (k : Int) ∧ dk4.length = N2 ∧ PS q W R g p2 key (A ++ D) A dk4 (.slice aa t ca) u8 (L ++ wlog (t % 16) m) L [(px, Obj.cells #[.bool false, .slice au m cu] 33)] w') (fun vk _ => N2 - (intOf vk).toNat)
                case atStart => exact ⟨0, dk3, Nat.zero_le _, rfl, HDK.out.1, HP9.out⟩
                case round =>
                  clear HP9
                  obtain ⟨k, dk4, hk4, rfl, hdk4, hps⟩ := hrel
                  by_cases hkt : k < N2
                  · have b4 : (k : Int) < (N2 : Int) := by omega
                    have hrow := hps.desk
                    have c1 : wr.cell? ⟨p2, k, none⟩ = some (.int .u8 (dk4.getD k 0)) := by rw [cell_of_row wr _ _ _ _ _ hrow, VI_at _ _ _ (by rw [hdk4]; exact hkt)]
                    have f1 : wr.frozen? ⟨p2, k, none⟩ = false := frozen_of_row wr _ _ _ _ hrow
                    have hps2 := hps.put (w2 := wr.setCell ⟨p2, k, none⟩ (.int .u8 153)) (dk' := dk4.set k 153) ((Grow.refl (fun k => k = p2) wr).setCell (p := ⟨p2, k, none⟩) (.inl rfl) _) (by
                      rw [heap_setCell_same wr _ _ _ _ _ hrow]
                      simp [VI, List.map_set])
                    obtain ⟨W8, hW8⟩ : ∃ V, wr.setCell ⟨p2, k, none⟩ (.int .u8 153) = V := ⟨_, rfl⟩
                    rw [hW8] at hps2
                    have HP8 : Hid (PS q W R g p2 key (A ++ D) A (dk4.set k 153) (.slice aa t ca) u8 (L ++ wlog (t % 16) m) L [(px, Obj.cells #[.bool false, .slice au m cu] 33)] W8) := hps2
                    have HL4 : Hid (dk4.length = N2) := hdk4
                    have hN3 := HN2.out.2
                    obtain ⟨z, hz⟩ : ∃ z, dk4.getD k 0 = z := ⟨_, rfl⟩
                    rw [hz] at c1
                    clear hps hps2 hrow hz hdk4
                    go_wp2
                    go_roundw
                    case rel => exact ⟨k + 1, dk4.set k 153, hkt, by go_num, by rw [List.length_set]; exact HL4.out, HP8.out⟩
                    case measure => simp [intOf]; omega
                  · have b4 : ¬ (k : Int) < (N2 : Int) := by omega
                    have HP8 : Hid (PS q W R g p2 key (A ++ D) A dk4 (.slice aa t ca) u8 (L ++ wlog (t % 16) m) L [(px, Obj.cells #[.bool false, .slice au m cu] 33)] wr) := hps
                    have HL4 : Hid (dk4.length = N2) := hdk4
                    obtain ⟨x0, x1, x2⟩ := HX.out _ _ _ _ _ _ _ _ _ hps
                    have hce := ewrite_any (t % 16) m (Nat.mod_lt _ (by decide)) hm1 wr
                    have htm : ((t % 16 : Nat) : Int) = (t : Int) % 16 := by omega
                    have hce' : Calls Try.prog 18 #[.int .i64 ((t : Int) % 16), .int .i64 (m : Int)] wr fun e w' => ∃ u, e = .returned (.tuple #[u, .int .i64 (((t % 16 + m) % 16 : Nat) : Int)]) ∧ Evl wr.heap.size wr u (wlog (t % 16) m) w' := by
                      rw [← htm]; exact hce
                    have CE : Hid _ := hce'
                    have hwl := wlog_len (t % 16) m (Nat.mod_lt _ (by decide))
                    have HWL : Hid ((wlog (t % 16) m).length ≤ 20 + m) := hwl
                    obtain ⟨z9, hz9⟩ : ∃ z, (t % 16 + m) % 16 = z := ⟨_, rfl⟩
                    rw [hz9] at CE
                    have HZ9 : Hid ((t % 16 + m) % 16 = z9) := hz9
                    clear hps hdk4 hce hce' htm hwl hz9
                    go_upto_region 35 with (first | (go_at_call 18; refine Calls.mono CE.out ?_; rintro e W9 ⟨bu, rfl, bh⟩; have HP9 : Hid (PS q W R g p2 key (A ++ D) A dk4 (.slice aa t ca) u8 (L ++ wlog (t % 16) m) L [(px, Obj.cells #[.bool false, .slice au m cu] 33)] W9) := HP8.out.below bh.old; have HAQ : Hid (∀ ty, ∃ v' w', (Builtin.append_ #[31, 31] ty #[u8, bu]).run Try.prog W9 = .ok v' w' ∧ PS q W R g p2 key (A ++ D) A dk4 (.slice aa t ca) v' (L ++ wlog (t % 16) m) (L ++ wlog (t % 16) m) [(px, Obj.cells #[.bool false, .slice au m cu] 33)] w') := fun ty => HP9.out.appE bh.own (wlog_pos _ _) (by have := HLB.out; have := HWL.out; omega) ty; clear bh CE) | (at_builtin; refine wpList_app _ rfl (.tmp 112) (.tmp 113) 31 31 rfl _ _ rfl rfl HAQ.out ?_; intro ve3 W10 h10; have H10 : Hid (PS q W R g p2 key (A ++ D) A dk4 (.slice aa t ca) ve3 (L ++ wlog (t % 16) m) (L ++ wlog (t % 16) m) [(px, Obj.cells #[.bool false, .slice au m cu] 33)] W10) := h10; clear h10 HAQ))
                    clear x0 x1 x2 HP8 HP9
                    obtain ⟨x0, x1, x2⟩ := HX.out _ _ _ _ _ _ _ _ _ H10.out
                    have HAR : Hid (∀ ty, ∃ v' w', (Builtin.append_ #[30, 30] ty #[(.slice aa t ca), .slice au m cu]).run Try.prog W10 = .ok v' w' ∧ PS q W R g p2 key (A ++ D) (A ++ D) dk4 v' ve3 (L ++ wlog (t % 16) m) (L ++ wlog (t % 16) m) [(px, Obj.cells #[.bool false, .slice au m cu] 33)] w') := fun ty => H10.out.appA (HD.out.2.2 []) (by rw [HA.out.1, HD.out.2.1]; have := HA.out.2.2.1; omega) ty
                    have hi4 := HIN.out.1
                    have hn4 := HIN.out.2
                    go_wp2_with (first | (at_builtin; refine wpList_app _ rfl (.tmp 116) (.tmp 118) 30 30 rfl _ _ rfl rfl HAR.out ?_; intro va3 W11 h11; have H11 : Hid (PS q W R g p2 key (A ++ D) (A ++ D) dk4 va3 ve3 (L ++ wlog (t % 16) m) (L ++ wlog (t % 16) m) [(px, Obj.cells #[.bool false, .slice au m cu] 33)] W11) := h11; clear h11 HAR))
                    go_roundw
                    case rel =>
                      have hl : (A ++ D).length = t + m := by rw [List.length_append, HA.out.1, HD.out.2.1]
                      refine ⟨i + 1, by go_num, A ++ D, dk4, p2, (L ++ wlog (t % 16) m), hi4, ⟨by rw [hl]; have := HRX.out; have := HM.out.1; omega, fun x hx => ?_⟩, ?_, by rw [HL4.out], ⟨by rw [HL4.out]; exact HN2.out.2, ?_⟩, H11.out.drop⟩
                      · rcases List.mem_append.1 hx with hx | hx
                        · exact HA.out.2.1 x hx
                        · exact HD.out.1 x hx
                      · rw [hl]; refine congrArg (Value.int .i64) ?_; have := HZ9.out; omega
                      · rw [hl, List.length_append]; have := HWL.out; have := HA.out.2.2.2.1; omega
                    case measure => simp [intOf]; omega
          · have CE : Hid _ := etag_any (t % 16) (Nat.mod_lt _ (by decide)) W4
            have HLL : Hid ((L ++ tlog (t % 16)).length ≤ 25 * (i + 1) + t ∧ L.length ≤ 200000) := by
              have h1 := HA.out.2.2.2.1
              have h2 := tlog_len (t % 16)
              have h3 := HIN.out
              have h4 := HA.out.2.2.1
              refine ⟨?_, ?_⟩
              · rw [List.length_append]; omega
              · omega
            go_upto_region 19 with (first | (go_at_call 12; refine Calls.mono CE.out ?_; rintro e W5 ⟨bu, rfl, bh⟩; have HAQ : Hid (∀ ty, ∃ v' w', (Builtin.append_ #[31, 31] ty #[u8, bu]).run Try.prog W5 = .ok v' w' ∧ PS q W R g p key A A dk (.slice aa t ca) v' L (L ++ tlog (t % 16)) [(px, Obj.cells #[.bool true, .slice au m cu] 33)] w') := fun ty => (HP4.out.below bh.old).appE bh.own (tlog_pos _) (by have := HLL.out.1; have := tlog_len (t % 16); have := HLL.out.2; omega) ty; clear bh CE) | (at_builtin; refine wpList_app _ rfl (.tmp 51) (.tmp 53) 31 31 rfl _ _ rfl rfl HAQ.out ?_; intro ve2 W6 h6; have H6 : Hid (PS q W R g p key A A dk (.slice aa t ca) ve2 L (L ++ tlog (t % 16)) [(px, Obj.cells #[.bool true, .slice au m cu] 33)] W6) := h6; clear h6 HAQ))
            clear x0 x1 x2 HP4
            refine wp_as (c' := rgPl19) (by kernel_rfl) ?_
            refine Pl19 (q := q) (W := W) (R := R) (g := g) (p := p) (key := key) (M := A) (dk := dk) (va := (.slice aa t ca)) (ve := ve2) (L := L) (E := L ++ tlog (t % 16)) (ex := [(px, Obj.cells #[.bool true, .slice au m cu] 33)]) HK.out HA.out.2.1 (by have := HLL.out.2; omega) (by rw [HA.out.1]; have := HA.out.2.2.1; omega) H6.out rfl rfl rfl rfl (fun _ _ d _ _ h => by cases d <;> exact h) ?_
            intro Y hY
            rw [HA.out.1] at hY
            have HY : Hid (PS q W R g p key A A dk (.slice aa t ca) ve2 (L ++ tlog (t % 16)) (L ++ tlog (t % 16)) [(px, Obj.cells #[.bool true, .slice au m cu] 33)] Y) := hY
            clear hY H6
            simp only [Act.put, List.setIfInBounds_toArray, List.set_cons_zero, List.set_cons_succ]
            have hi4 := HIN.out.1
            have hn4 := HIN.out.2
            go_wp2
            go_roundw
            case rel => exact ⟨i + 1, by go_num, A, dk, p, L ++ tlog (t % 16), hi4, ⟨by rw [HA.out.1]; exact HA.out.2.2.1, HA.out.2.1⟩, by rw [HA.out.1]; exact congrArg (Value.int .i64) (by omega), by rw [HA.out.2.2.2.2.1], ⟨by rw [HA.out.2.2.2.2.1]; exact HA.out.2.2.2.2.2, by rw [HA.out.1]; exact HLL.out.1⟩, HY.out.drop⟩
            case measure => simp [intOf]; omega
      · have b1 : ¬ (i : Int) < (n : Int) := by omega
        have CE : Hid _ := etag_any (t % 16) (Nat.mod_lt _ (by decide)) wr
        have HLL : Hid (L.length ≤ 200000) := by
          have h1 := HA.out.2.2.2.1
          have h3 := HB.out
          have h4 := HA.out.2.2.1
          have h5 : i ≤ 400 := by omega
          show L.length ≤ 200000
          omega
        go_upto_region 37 with (first | (go_at_call 12; refine Calls.mono CE.out ?_; rintro e W5 ⟨bu, rfl, bh⟩; have HAQ : Hid (∀ ty, ∃ v' w', (Builtin.append_ #[31, 31] ty #[u8, bu]).run Try.prog W5 = .ok v' w' ∧ PS q W R g p key A A dk (.slice aa t ca) v' L (L ++ tlog (t % 16)) [] w') := fun ty => (HPS.out.below bh.old).appE bh.own (tlog_pos _) (by have := tlog_len (t % 16); have := HLL.out; omega) ty; clear bh CE) | (at_builtin; refine wpList_app _ rfl (.tmp 120) (.tmp 122) 31 31 rfl _ _ rfl rfl HAQ.out ?_; intro ve2 W6 h6; have H6 : Hid (PS q W R g p key A A dk (.slice aa t ca) ve2 L (L ++ tlog (t % 16)) [] W6) := h6; clear h6 HAQ))
        clear HPS
        refine wp_as (c' := rgPl37) (by kernel_rfl) ?_
        refine Pl37 (q := q) (W := W) (R := R) (g := g) (p := p) (key := key) (M := A) (dk := dk) (va := (.slice aa t ca)) (ve := ve2) (L := L) (E := L ++ tlog (t % 16)) (ex := []) HK.out HA.out.2.1 (by have := HLL.out; omega) (by rw [HA.out.1]; have := HA.out.2.2.1; omega) H6.out (by rw [HA.out.1]) rfl rfl rfl rfl rfl rfl (fun _ _ d _ _ h => by cases d <;> exact h) ?_
        intro uu Y hY
        have HY : Hid (Below q W Y) := hY.old
        clear hY H6
        simp only [Act.put, List.setIfInBounds_toArray, List.set_cons_zero, List.set_cons_succ]
        go_wp2
        go_ret
        exact ⟨rfl, HY.out⟩
  · have b0 : (400 : Int) < (n : Int) := by omega
    have b0' : 400 < n := by omega
    clear e1 hS hb hn hbig hk
    go_enter Try.func3, Try.ntmps3
    go_wp2
    go_ret
    exact ⟨rfl, HB0.out⟩
end Go.Proofs.Ytgfamcadgahiiaa
