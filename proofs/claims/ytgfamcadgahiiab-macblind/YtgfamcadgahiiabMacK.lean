import Derived.Test.YtgfamcadgahiiabMacJ
import Derived.Test.YtgfamcadgahiiabTrD
namespace Go.Proofs.Ytgfamcadgahiiab
set_option linter.unusedSimpArgs false
set_option linter.unusedVariables false
open Go.ChangeShapes Go.WideShapes Go.ChangeAt Go.RowKit Go.Pin Go.Prm
theorem wpList_load_row_g {P : Program} {ops : Array Oper} {rest : List Oper} {o : Oper} {a : Act} {w : World} {Q : Exit → Act → World → Prop} (hw : Region.wanted o (yielded ops a.tmps) = true) (ty : TypeId) (x : Operand) (ho : o.op = .load ty x)
    (g : Nat) (hx : a.eval x = .pointer (some ⟨g, 0, none⟩)) (t : TypeId) (cs : Array Value) (fr : Nat × Nat) (d : TypeDesc) (hg : w.heap[g]? = some (.cells cs t fr))
    (hu : P.underlying ty = some d) (hd : (match d with | .struct _ | .array _ _ => true | _ => false) = true) (hi : (P.info? ty).map (·.size) = some cs.size)
    (h : wpList P ops Q rest (a.put o.dst (.agg cs)) w) : wpList P ops Q (o :: rest) a w := by
  unfold wpList
  rw [if_pos hw]
  exact .inl (wp_load_row ty x ho g hx t cs fr d hg hu hd hi h)
def k2 : List Int := [2, 0, 0, 0, 0, 0, 0, 0, 0, 0, 0, 0, 0, 0, 0, 0, 16, 17, 0, 0, 0, 0, 0, 0, 0, 0, 0, 0, 0, 0, 0, 0]
theorem k2_key : Key32 k2 := ⟨rfl, by decide⟩
def t16 : List Int := [16, 17, 0, 0, 0, 0, 0, 0, 0, 0, 0, 0, 0, 0, 0, 0]
def t18 : List Int := [18, 19, 0, 0, 0, 0, 0, 0, 0, 0, 0, 0, 0, 0, 0, 0]
theorem kn_t : (mtag (kl 32) kr).getD 0 0 = 218 ∧ (mtag (kl 32) kr).getD 15 0 = 54 ∧ ¬ mtag (kl 32) kR = mtag (kl 32) kr ∧ mtag k2 [] = t16 ∧ mtag k2 [1] = t18 ∧ (olg [4, 11]).length = 18 := by decide +kernel
def pk : List Int := [107, 101, 101, 108]
def pr : List Int := [32, 97, 110, 100, 32, 114, 117, 100, 100, 101, 114]
theorem v_total {B : Nat} {w : World} {R : Nat} {l : List (Int × Int)} {bx : List (Nat × Obj)} {wr : World} (h : Ev B w (.pointer (some ⟨R, 0, none⟩)) l bx wr) : Calls Try.prog 11 #[.pointer (some ⟨R, 0, none⟩)] wr fun e w' => e = .returned (.int .i64 l.length) ∧ w' = wr := by
  rcases h.rc with e | ⟨R', vs, e, h2, h3⟩
  · cases e
  · injection e with e; injection e with e; injection e with e1; subst e1
    exact total_any _ vs l wr h2.opt
theorem eqT {x y : List Int} (hx : x.length = 16) (hy : y.length = 16) (w : World) : (Op.equalIn 10000 27 (.agg (VI .u8 x)) (.agg (VI .u8 y))).run Try.prog w = .ok (x == y) w :=
  run_equalIn_row w 9998 27 5 .u8 16 x y hx hy Try.underlying27 Try.underlying5 size_u8
set_option maxRecDepth 100000 in
set_option maxHeartbeats 8000000 in
theorem known_any (W : World) : Calls Try.prog 8 #[] W fun e w' => e = .returned (.bool true) ∧ Below W.heap.size W w' := by
  obtain ⟨q, hq⟩ : ∃ q, W.heap.size = q := ⟨_, rfl⟩
  have h1 := ev_new W
  have CN : Hid (Calls Try.prog 9 #[] W fun e w' => e = .returned (.pointer (some ⟨q, 0, none⟩)) ∧ w' = W.alloc (.cells #[.slice none 0 0, .int .i64 0] 56)) := by
    have := new_any W
    rw [hq] at this
    exact this
  rw [hq] at h1
  obtain ⟨W1, hW1⟩ : ∃ V, W.alloc (.cells #[.slice none 0 0, .int .i64 0] 56) = V := ⟨_, rfl⟩
  rw [hW1] at h1 CN
  have H1 : Hid (Ev q W (.pointer (some ⟨q, 0, none⟩)) [] [] W1) := h1
  have HQ : Hid (W.heap.size = q) := hq
  rw [hq]
  clear h1 hW1 hq
  go_enter Try.func8, Try.ntmps8
  go_upto_region 2 with (first | (go_at_call 9; refine Calls.mono CN.out ?_; rintro e V1 ⟨rfl, hV⟩; obtain rfl := hV))
  have HP : Hid (∀ W2, Below V1.heap.size V1 W2 → ∃ g1 g2 g3 W3 W4 W5, W2.heap.size = g1 ∧ W3.heap.size = g2 ∧ W4.heap.size = g3
      ∧ (convert 32 32 (.slice (some ⟨g1, 0, none⟩) 4 4)).run Try.prog (W2.alloc (.cells #[.int .u8 107, .int .u8 101, .int .u8 101, .int .u8 108] 5)) = .ok (.slice (some ⟨g1, 0, none⟩) 4 4) W3
      ∧ (convert 32 32 (.slice (some ⟨g2, 0, none⟩) 11 11)).run Try.prog (W3.alloc (.cells #[.int .u8 32, .int .u8 97, .int .u8 110, .int .u8 100, .int .u8 32, .int .u8 114, .int .u8 117, .int .u8 100, .int .u8 100, .int .u8 101, .int .u8 114] 5)) = .ok (.slice (some ⟨g2, 0, none⟩) 11 11) W4
      ∧ W4.alloc (.cells #[.slice (some ⟨g1, 0, none⟩) 4 4, .slice (some ⟨g2, 0, none⟩) 11 11] 32) = W5
      ∧ Calls Try.prog 6 #[.pointer (some ⟨q, 0, none⟩), .agg (VI .u8 (kl 32)), .slice (some ⟨g3, 0, none⟩) 2 2] W5 fun e w' => e = .returned (.agg (VI .u8 (mtag (kl 32) kr))) ∧ Ev q W (.pointer (some ⟨q, 0, none⟩)) (olg [4, 11]) [] w') := by
    have : ∀ W2, Below V1.heap.size V1 W2 → ∃ g1 g2 g3 W3 W4 W5, W2.heap.size = g1 ∧ W3.heap.size = g2 ∧ W4.heap.size = g3
      ∧ (convert 32 32 (.slice (some ⟨g1, 0, none⟩) 4 4)).run Try.prog (W2.alloc (.cells #[.int .u8 107, .int .u8 101, .int .u8 101, .int .u8 108] 5)) = .ok (.slice (some ⟨g1, 0, none⟩) 4 4) W3
      ∧ (convert 32 32 (.slice (some ⟨g2, 0, none⟩) 11 11)).run Try.prog (W3.alloc (.cells #[.int .u8 32, .int .u8 97, .int .u8 110, .int .u8 100, .int .u8 32, .int .u8 114, .int .u8 117, .int .u8 100, .int .u8 100, .int .u8 101, .int .u8 114] 5)) = .ok (.slice (some ⟨g2, 0, none⟩) 11 11) W4
      ∧ W4.alloc (.cells #[.slice (some ⟨g1, 0, none⟩) 4 4, .slice (some ⟨g2, 0, none⟩) 11 11] 32) = W5
      ∧ Calls Try.prog 6 #[.pointer (some ⟨q, 0, none⟩), .agg (VI .u8 (kl 32)), .slice (some ⟨g3, 0, none⟩) 2 2] W5 fun e w' => e = .returned (.agg (VI .u8 (mtag (kl 32) kr))) ∧ Ev q W (.pointer (some ⟨q, 0, none⟩)) (olg [4, 11]) [] w' := fun W2 hb => by
      have h2 := H1.out.below hb
      have h3 := h2.new (.cells (VI .u8 pk) 5 (4, 5))
      have h4 := h3.new (.cells (VI .u8 pr) 5 (11, 12))
      have h5 := h4.new (.cells #[.slice (some ⟨W2.heap.size, 0, none⟩) 4 4, .slice (some ⟨(W2.alloc (.cells (VI .u8 pk) 5 (4, 5))).heap.size, 0, none⟩) 11 11] 32)
      refine ⟨_, _, _, W2.alloc (.cells (VI .u8 pk) 5 (4, 5)), (W2.alloc (.cells (VI .u8 pk) 5 (4, 5))).alloc (.cells (VI .u8 pr) 5 (11, 12)), _, rfl, rfl, rfl, ?_, ?_, rfl, ?_⟩
      · exact Lib.run_convert_bytes_const (P := Try.prog) W2 32 5 #[.int .u8 107, .int .u8 101, .int .u8 101, .int .u8 108] 4 4 Try.underlying32 Try.underlying5
      · exact Lib.run_convert_bytes_const (P := Try.prog) _ 32 5 #[.int .u8 32, .int .u8 97, .int .u8 110, .int .u8 100, .int .u8 32, .int .u8 114, .int .u8 117, .int .u8 100, .int .u8 100, .int .u8 101, .int .u8 114] 11 11 Try.underlying32 Try.underlying5
      · refine (of_any (Ds := [pk, pr]) h5 (kl_key 32) ⟨⟨rfl, by decide⟩, fun j hj => ?_⟩ (fun D hD => by simp at hD; rcases hD with rfl | rfl <;> decide) (fun _ => by decide)).mono ?_
        · have hj2 : j < 2 := hj
          have hc : j = 0 ∨ j = 1 := by omega
          rcases hc with rfl | rfl
          · exact ⟨_, 0, _, rfl, fun Z _ hq => by rw [cell_of_row Z _ _ _ _ _ (hq _ mem0)]; rfl, src_box (L := pk) mem2 0 4 4 (by decide) (by decide)⟩
          · exact ⟨_, 0, _, rfl, fun Z _ hq => by rw [cell_of_row Z _ _ _ _ _ (hq _ mem0)]; rfl, src_box (L := pr) mem1 0 11 11 (by decide) (by decide)⟩
        · rintro e w' ⟨rfl, h⟩
          exact ⟨rfl, h.sub (by simp)⟩
    exact this
  clear CN
  go_upto_region 3 with (first | (go_at_call 19; refine Calls.mono (counted_any V1) ?_; rintro e W2 ⟨rfl, hb⟩; obtain ⟨g1, g2, g3, W3, W4, W5, hg1, hg2, hg3, hcv1, hcv2, hW5, co⟩ := HP.out W2 hb; have CO : Hid _ := co; clear co hb HP) | (go_at_call 6; refine Calls.mono CO.out ?_; rintro e W6 ⟨rfl, h6⟩; have H6 : Hid _ := h6; clear h6) | (with_reducible refine at_list ?_; first | (refine hold_store 27 (.tmp 2) (.tmp 16) rfl ?_)))
  refine store_row_new rfl 27 (.tmp 2) (.tmp 16) rfl W6.heap.size (VI .u8 (mtag (kl 32) kr)) rfl rfl rfl 27 (VI .u8 (List.replicate 16 0)) (by rw [VI_size, mtag_len]; exact infoT) (by rw [VI_size, VI_size, mtag_len]; rfl) (VI_one _ _) ?_
  have h7 := H6.out.new (.cells (VI .u8 (mtag (kl 32) kr)) 27)
  obtain ⟨p2, hp2⟩ : ∃ p, W6.heap.size = p := ⟨_, rfl⟩
  obtain ⟨W7, hW7⟩ : ∃ V, W6.alloc (.cells (VI .u8 (mtag (kl 32) kr)) 27) = V := ⟨_, rfl⟩
  rw [hW7, hp2] at h7 ⊢
  obtain ⟨s7, hs7⟩ : ∃ s, W7.heap.size = s := ⟨_, rfl⟩
  have hp7 : p2 < s7 := by rw [← hs7]; exact h7.lt mem0
  have e0 := ev_nil' W7
  rw [hs7] at e0
  have H7 : Hid (Ev q W (.pointer (some ⟨q, 0, none⟩)) (olg [4, 11]) [(p2, .cells (VI .u8 (mtag (kl 32) kr)) 27)] W7 ∧ p2 < s7 ∧ W7.heap.size = s7) := ⟨h7, hp7, hs7⟩
  have CN2 : Hid (Calls Try.prog 13 #[.pointer none, .agg (VI .u8 k2)] W7 fun e w' => ∃ g, e = .returned (.pointer (some ⟨g, 0, none⟩)) ∧ W7.heap.size ≤ g ∧ Ev s7 W7 (.pointer none) [] [(g, mst (.pointer none) k2 [])] w') := mnew_any e0 k2_key
  clear h7 hp7 hs7 e0 hW7 hp2 H6 CO hcv1 hcv2 hg1 hg2 hg3 hW5
  go_upto_region 7 with (first | (go_at_call 13; refine Calls.mono CN2.out ?_; rintro e W8 ⟨g, rfl, hg, h8⟩; have CT : Hid _ := mtag_any h8 (fun _ => by decide) k2_key (fun x hx => nomatch hx); clear h8 hg) | (go_at_call 17; refine Calls.mono CT.out ?_; rintro e W9 ⟨rfl, h9⟩; have H9 : Hid _ := h9.nilOf []; clear h9) | (with_reducible refine at_list ?_; first | (refine hold_store 27 (.tmp 4) (.tmp 22) rfl ?_)))
  refine store_row_new rfl 27 (.tmp 4) (.tmp 22) rfl W9.heap.size (VI .u8 (mtag k2 [])) rfl rfl rfl 27 (VI .u8 (List.replicate 16 0)) (by rw [VI_size, mtag_len]; exact infoT) (by rw [VI_size, VI_size, mtag_len]; rfl) (VI_one _ _) ?_
  have h10 := H9.out.new (.cells (VI .u8 (mtag k2 [])) 27)
  have hga := H9.out.lt mem0
  obtain ⟨pa, hpa⟩ : ∃ p, W9.heap.size = p := ⟨_, rfl⟩
  obtain ⟨W10, hW10⟩ : ∃ V, W9.alloc (.cells (VI .u8 (mtag k2 [])) 27) = V := ⟨_, rfl⟩
  rw [hW10, hpa] at h10 ⊢
  rw [hpa] at hga
  have h11 := h10.new (.cells #[.int .u8 1] 5)
  have hgb := h10.lt mem0
  obtain ⟨g8, hg8⟩ : ∃ p, W10.heap.size = p := ⟨_, rfl⟩
  obtain ⟨W11, hW11⟩ : ∃ V, W10.alloc (.cells #[.int .u8 1] 5) = V := ⟨_, rfl⟩
  rw [hW11, hg8] at h11
  rw [hg8] at hgb
  have h12 : Ev s7 W7 (.pointer none) [] [(g, mst (.pointer none) k2 []), (g8, .cells (VI .u8 [1]) 5), (pa, .cells (VI .u8 (mtag k2 [])) 27)] W11 := h11.sub (fun p hp => by
    simp only [List.mem_cons, List.not_mem_nil, or_false] at hp ⊢
    rcases hp with rfl | rfl | rfl
    · exact .inr (.inr rfl)
    · exact .inl rfl
    · exact .inr (.inl rfl))
  have CW : Hid (Calls Try.prog 15 #[.pointer (some ⟨g, 0, none⟩), .slice (some ⟨g8, 0, none⟩) 1 1] W11 fun e w' => e = .returned (.tuple #[]) ∧ Ev s7 W7 (.pointer none) ([] ++ wlog (([] : List Int).length % 16) ([1] : List Int).length) [(g, mst (.pointer none) k2 [1]), (g8, .cells (VI .u8 [1]) 5), (pa, .cells (VI .u8 (mtag k2 [])) 27)] w') := by
    have := mwrite_any (D := [1]) h12 (fun p hp => by
      simp only [List.mem_cons, List.not_mem_nil, or_false] at hp
      rcases hp with rfl | rfl
      · show g8 ≠ g; omega
      · show pa ≠ g; omega) (fun _ => by decide) k2_key (fun x hx => nomatch hx) (by decide) (src_box (L := [1]) mem0 0 1 1 (by decide) (by decide))
    rw [List.nil_append [1]] at this
    exact this
  clear h10 h11 h12 hga hgb H9 CT hW10 hpa CN2
  go_upto_region 9 with (first | (go_at_call 15; refine Calls.mono CW.out ?_; rintro e W12 ⟨rfl, h12⟩; have CT2 : Hid _ := mtag_any h12 (fun _ => by decide) k2_key (by decide); clear h12) | (go_at_call 17; refine Calls.mono CT2.out ?_; rintro e W13 ⟨rfl, h13⟩; have H13 : Hid _ := h13.nilOf []; clear h13) | (with_reducible refine at_list ?_; first | (refine hold_store 27 (.tmp 5) (.tmp 27) rfl ?_)))
  refine store_row_new rfl 27 (.tmp 5) (.tmp 27) rfl W13.heap.size (VI .u8 (mtag k2 [1])) rfl rfl rfl 27 (VI .u8 (List.replicate 16 0)) (by rw [VI_size, mtag_len]; exact infoT) (by rw [VI_size, VI_size, mtag_len]; rfl) (VI_one _ _) ?_
  have h14 := H13.out.new (.cells (VI .u8 (mtag k2 [1])) 27)
  obtain ⟨pb, hpb⟩ : ∃ p, W13.heap.size = p := ⟨_, rfl⟩
  obtain ⟨W14, hW14⟩ : ∃ V, W13.alloc (.cells (VI .u8 (mtag k2 [1])) 27) = V := ⟨_, rfl⟩
  rw [hW14, hpb] at h14 ⊢
  obtain ⟨k0, k15, kne, ka, kb, kt⟩ := kn_t
  have h15 : Ev s7 W7 (.pointer none) [] [(pb, .cells (VI .u8 t18) 27), (pa, .cells (VI .u8 t16) 27)] W14 := by
    rw [← ka, ← kb]
    exact h14.sub (fun p hp => by
      simp only [List.mem_cons, List.not_mem_nil, or_false] at hp ⊢
      rcases hp with rfl | rfl
      · exact .inl rfl
      · exact .inr (.inr (.inr rfl)))
  have H14 : Hid _ := h15
  have HS : Hid (∀ Y, Ev s7 W7 (.pointer none) [] [(pb, .cells (VI .u8 t18) 27), (pa, .cells (VI .u8 t16) 27)] Y → Y.rangeAt p2 0 ((mtag (kl 32) kr).map (Value.int .u8))) := fun Y h => rangeAt_block (row_range (H7.out.1.row mem0)) (h.old.block p2 H7.out.2.1)
  clear h14 h15 hpb hW14 H13 CT2 CW hg8 hW11
  go_upto_region 9 with fail
  refine wp_as (c' := rgKn9) (by kernel_rfl) ?_
  refine Kn9 (p2 := p2) (tg := mtag (kl 32) kr) (mtag_t _ _) H14.out HS.out rfl rfl (fun _ _ d _ _ h => by cases d <;> exact h) ?_
  intro g1 g2 Y hY
  have e6 : decide (mtag (kl 32) kr = mtag (kl 32) kr) = true := by simp
  rw [e6]
  have HY : Hid _ := hY
  clear hY H14
  simp only [Act.put, List.setIfInBounds_toArray, List.set_cons_zero, List.set_cons_succ]
  go_upto_region 10 with fail
  refine wp_as (c' := rgKn10) (by kernel_rfl) ?_
  refine Kn10 (p2 := p2) (tg := mtag (kl 32) kr) (mtag_t _ _) HY.out HS.out rfl rfl (fun _ _ d _ _ h => by cases d <;> exact h) ?_
  intro g3 g4 Z hZ
  have e7 : decide (mtag (kl 32) kR = mtag (kl 32) kr) = false := by simpa using kne
  rw [e7]
  have c0 : Z.cell? ⟨p2, 0, none⟩ = some (.int .u8 218) := by
    rw [HS.out Z hZ 0 (.int .u8 218) (by rw [List.getElem?_map, List.getElem?_eq_getElem (by rw [mtag_len]; decide), ← k0, List.getD_eq_getElem?_getD, List.getElem?_eq_getElem (by rw [mtag_len]; decide)]; rfl)]
  have c15 : Z.cell? ⟨p2, 15, none⟩ = some (.int .u8 54) := by
    rw [show (15 : Nat) = 0 + 15 from rfl, HS.out Z hZ 15 (.int .u8 54) (by rw [List.getElem?_map, List.getElem?_eq_getElem (by rw [mtag_len]; decide), ← k15, List.getD_eq_getElem?_getD, List.getElem?_eq_getElem (by rw [mtag_len]; decide)]; rfl)]
  have LA : Hid (Z.heap[pa]? = some (.cells (VI .u8 t16) 27)) := hZ.row mem1
  have LB : Hid (Z.heap[pb]? = some (.cells (VI .u8 t18) 27)) := hZ.row mem0
  have EQA : ∀ w, (Op.equalIn 10000 27 (.agg (VI .u8 t16)) (.agg #[.int .u8 16, .int .u8 17, .int .u8 0, .int .u8 0, .int .u8 0, .int .u8 0, .int .u8 0, .int .u8 0, .int .u8 0, .int .u8 0, .int .u8 0, .int .u8 0, .int .u8 0, .int .u8 0, .int .u8 0, .int .u8 0])).run Try.prog w = .ok true w := fun w => eqT (x := t16) (y := t16) rfl rfl w
  have EQB : ∀ w, (Op.equalIn 10000 27 (.agg (VI .u8 t18)) (.agg #[.int .u8 18, .int .u8 19, .int .u8 0, .int .u8 0, .int .u8 0, .int .u8 0, .int .u8 0, .int .u8 0, .int .u8 0, .int .u8 0, .int .u8 0, .int .u8 0, .int .u8 0, .int .u8 0, .int .u8 0, .int .u8 0])).run Try.prog w = .ok true w := fun w => eqT (x := t18) (y := t18) rfl rfl w
  have hR := H7.out.1.below (by rw [H7.out.2.2]; exact hZ.old)
  have CTT : Hid (Calls Try.prog 11 #[.pointer (some ⟨q, 0, none⟩)] Z fun e w' => e = .returned (.int .i64 18) ∧ w' = Z) := by
    have := v_total hR
    rw [kt] at this
    exact this
  have HB : Hid (Below q W Z) := hR.old
  have HIA : Hid ((Try.prog.info? 27).map (·.size) = some (VI .u8 t16).size) := by
    have : (Try.prog.info? 27).map (·.size) = some (VI .u8 t16).size := by rw [VI_size]; exact infoT
    exact this
  have HIB : Hid ((Try.prog.info? 27).map (·.size) = some (VI .u8 t18).size) := by
    have : (Try.prog.info? 27).map (·.size) = some (VI .u8 t18).size := by rw [VI_size]; exact infoT
    exact this
  clear hZ HY hR HS H7 k0 k15 kne ka kb kt e6 e7
  simp only [Act.put, List.setIfInBounds_toArray, List.set_cons_zero, List.set_cons_succ]
  go_wp2_with (first | (go_at_call 11; refine Calls.mono CTT.out ?_; rintro e V2 ⟨rfl, hV⟩; obtain rfl := hV) | (with_reducible refine at_list ?_; first | (refine wpList_load_row_g (by kernel_rfl) 27 (.tmp 4) rfl pa rfl 27 (VI .u8 t16) (0, 0) _ LA.out Try.underlying27 rfl HIA.out ?_) | (refine wpList_load_row_g (by kernel_rfl) 27 (.tmp 5) rfl pb rfl 27 (VI .u8 t18) (0, 0) _ LB.out Try.underlying27 rfl HIB.out ?_)))
  go_ret
  exact ⟨rfl, HB.out⟩
end Go.Proofs.Ytgfamcadgahiiab
