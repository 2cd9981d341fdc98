import Derived.Maps.AppendAt
import Derived.Laws.OwnMore
import Derived.Test.YtgfamcadgahiiaaMmam
import Derived.Test.YtgfamcadgahiiaaMmak
import Derived.Test.YtgfamcadgahiiaaMmad
import Derived.Test.YtgfamcadgahiiaaMmaa
namespace Go.Proofs.Ytgfamcadgahiiaa
set_option linter.unusedSimpArgs false
set_option linter.unusedVariables false
open Go.ChangeShapes Go.WideShapes Go.ChangeAt Go.RowKit Go.Pin Go.Prm
theorem wpList_load_row_g {P : Program} {ops : Array Oper} {rest : List Oper} {o : Oper} {a : Act} {w : World} {Q : Exit → Act → World → Prop} (hw : Region.wanted o (yielded ops a.tmps) = true) (ty : TypeId) (x : Operand) (ho : o.op = .load ty x)
    (g : Nat) (hx : a.eval x = .pointer (some ⟨g, 0, none⟩)) (t : TypeId) (cs : Array Value) (fr : Nat × Nat) (d : TypeDesc) (hg : w.heap[g]? = some (.cells cs t fr))
    (hu : P.underlying ty = some d) (hd : (match d with | .struct _ | .array _ _ => true | _ => false) = true) (hi : (P.info? ty).map (·.size) = some cs.size)
    (h : wpList P ops Q rest (a.put o.dst (.agg cs)) w) : wpList P ops Q (o :: rest) a w := by
  unfold wpList
  rw [if_pos hw]
  exact .inl (wp_load_row ty x ho g hx t cs fr d hg hu hd hi h)
def k2 : List Int := [2, 0, 0, 0, 0, 0, 0, 0, 0, 0, 0, 0, 0, 0, 0, 0, 16, 17, 0, 0, 0, 0, 0, 0, 0, 0, 0, 0, 0, 0, 0, 0]
theorem k2_key : Key32 k2 := ⟨rfl, by decide⟩
def t16 : List Int := [16, 17, 0, 0, 0, 0, 0, 0, 0, 0, 0, 0, 0, 0, 0, 0]
def t18 : List Int := [18, 19, 0, 0, 0, 0, 0, 0, 0, 0, 0, 0, 0, 0, 0, 0]
theorem kn_t : (mtag (kl 32) kr).getD 0 0 = 218 ∧ (mtag (kl 32) kr).getD 15 0 = 54 ∧ ¬ mtag (kl 32) kR = mtag (kl 32) kr ∧ mtag k2 [] = t16 ∧ mtag k2 [1] = t18 ∧ (olg [4, 11]).length = 18 := by decide +kernel
def pk : List Int := [107, 101, 101, 108]
def pr : List Int := [32, 97, 110, 100, 32, 114, 117, 100, 100, 101, 114]
theorem v_total {B : Nat} {w : World} {R : Nat} {l : List (Int × Int)} {bx : List (Nat × Obj)} {wr : World} (h : Ev B w (.pointer (some ⟨R, 0, none⟩)) l bx wr) : Calls Try.prog 11 #[.pointer (some ⟨R, 0, none⟩)] wr fun e w' => e = .returned (.int .i64 l.length) ∧ w' = wr := by
  rcases h.rc with e | ⟨R', vs, e, h2, h3⟩
  · cases e
  · injection e with e; injection e with e; injection e with e1; subst e1
    exact total_any _ vs l wr h2.opt
theorem eqT {x y : List Int} (hx : x.length = 16) (hy : y.length = 16) (w : World) : (Op.equalIn 10000 36 (.agg (VI .u8 x)) (.agg (VI .u8 y))).run Try.prog w = .ok (x == y) w :=
  run_equalIn_row w 9998 36 5 .u8 16 x y hx hy Try.underlying36 Try.underlying5 size_u8
set_option maxRecDepth 100000 in
set_option maxHeartbeats 8000000 in
theorem known_any (W : World) : Calls Try.prog 21 #[] W fun e w' => e = .returned (.bool true) ∧ Below W.heap.size W w' := by
  obtain ⟨q, hq⟩ : ∃ q, W.heap.size = q := ⟨_, rfl⟩
  have h1 := ev_new W
  have CN : Hid (Calls Try.prog 9 #[] W fun e w' => e = .returned (.pointer (some ⟨q, 0, none⟩)) ∧ w' = W.alloc (.cells #[.slice none 0 0, .int .i64 0] 78)) := by
    have := new_any W
    rw [hq] at this
    exact this
  rw [hq] at h1
  obtain ⟨W1, hW1⟩ : ∃ V, W.alloc (.cells #[.slice none 0 0, .int .i64 0] 78) = V := ⟨_, rfl⟩
  rw [hW1] at h1 CN
  have H1 : Hid (Ev q W (.pointer (some ⟨q, 0, none⟩)) [] [] W1) := h1
  have HQ : Hid (W.heap.size = q) := hq
  rw [hq]
  clear h1 hW1 hq
  go_enter Try.func21, Try.ntmps21
  go_upto_region 2 with (first | (go_at_call 9; refine Calls.mono CN.out ?_; rintro e V1 ⟨rfl, hV⟩; obtain rfl := hV))
  have HP : Hid (∀ W2, Below V1.heap.size V1 W2 → ∃ g1 g2 g3 W3 W4 W5, W2.heap.size = g1 ∧ W3.heap.size = g2 ∧ W4.heap.size = g3
      ∧ (convert 30 30 (.slice (some ⟨g1, 0, none⟩) 4 4)).run Try.prog (W2.alloc (.cells #[.int .u8 107, .int .u8 101, .int .u8 101, .int .u8 108] 5)) = .ok (.slice (some ⟨g1, 0, none⟩) 4 4) W3
      ∧ (convert 30 30 (.slice (some ⟨g2, 0, none⟩) 11 11)).run Try.prog (W3.alloc (.cells #[.int .u8 32, .int .u8 97, .int .u8 110, .int .u8 100, .int .u8 32, .int .u8 114, .int .u8 117, .int .u8 100, .int .u8 100, .int .u8 101, .int .u8 114] 5)) = .ok (.slice (some ⟨g2, 0, none⟩) 11 11) W4
      ∧ W4.alloc (.cells #[.slice (some ⟨g1, 0, none⟩) 4 4, .slice (some ⟨g2, 0, none⟩) 11 11] 30) = W5
      ∧ Calls Try.prog 24 #[.pointer (some ⟨q, 0, none⟩), .agg (VI .u8 (kl 32)), .slice (some ⟨g3, 0, none⟩) 2 2] W5 fun e w' => e = .returned (.agg (VI .u8 (mtag (kl 32) kr))) ∧ Ev q W (.pointer (some ⟨q, 0, none⟩)) (olg [4, 11]) [] w') := by
    have : ∀ W2, Below V1.heap.size V1 W2 → ∃ g1 g2 g3 W3 W4 W5, W2.heap.size = g1 ∧ W3.heap.size = g2 ∧ W4.heap.size = g3
      ∧ (convert 30 30 (.slice (some ⟨g1, 0, none⟩) 4 4)).run Try.prog (W2.alloc (.cells #[.int .u8 107, .int .u8 101, .int .u8 101, .int .u8 108] 5)) = .ok (.slice (some ⟨g1, 0, none⟩) 4 4) W3
      ∧ (convert 30 30 (.slice (some ⟨g2, 0, none⟩) 11 11)).run Try.prog (W3.alloc (.cells #[.int .u8 32, .int .u8 97, .int .u8 110, .int .u8 100, .int .u8 32, .int .u8 114, .int .u8 117, .int .u8 100, .int .u8 100, .int .u8 101, .int .u8 114] 5)) = .ok (.slice (some ⟨g2, 0, none⟩) 11 11) W4
      ∧ W4.alloc (.cells #[.slice (some ⟨g1, 0, none⟩) 4 4, .slice (some ⟨g2, 0, none⟩) 11 11] 30) = W5
      ∧ Calls Try.prog 24 #[.pointer (some ⟨q, 0, none⟩), .agg (VI .u8 (kl 32)), .slice (some ⟨g3, 0, none⟩) 2 2] W5 fun e w' => e = .returned (.agg (VI .u8 (mtag (kl 32) kr))) ∧ Ev q W (.pointer (some ⟨q, 0, none⟩)) (olg [4, 11]) [] w' := fun W2 hb => by
      have h2 := H1.out.below hb
      have h3 := h2.new (.cells (VI .u8 pk) 5 (4, 5))
      have h4 := h3.new (.cells (VI .u8 pr) 5 (11, 12))
      have h5 := h4.new (.cells #[.slice (some ⟨W2.heap.size, 0, none⟩) 4 4, .slice (some ⟨(W2.alloc (.cells (VI .u8 pk) 5 (4, 5))).heap.size, 0, none⟩) 11 11] 30)
      refine ⟨_, _, _, W2.alloc (.cells (VI .u8 pk) 5 (4, 5)), (W2.alloc (.cells (VI .u8 pk) 5 (4, 5))).alloc (.cells (VI .u8 pr) 5 (11, 12)), _, rfl, rfl, rfl, ?_, ?_, rfl, ?_⟩
      · exact Lib.run_convert_bytes_const (P := Try.prog) W2 30 5 #[.int .u8 107, .int .u8 101, .int .u8 101, .int .u8 108] 4 4 Try.underlying30 Try.underlying5
      · exact Lib.run_convert_bytes_const (P := Try.prog) _ 30 5 #[.int .u8 32, .int .u8 97, .int .u8 110, .int .u8 100, .int .u8 32, .int .u8 114, .int .u8 117, .int .u8 100, .int .u8 100, .int .u8 101, .int .u8 114] 11 11 Try.underlying30 Try.underlying5
      · refine (of_any (Ds := [pk, pr]) h5 (kl_key 32) ⟨⟨rfl, by decide⟩, fun j hj => ?_⟩ (fun D hD => by simp at hD; rcases hD with rfl | rfl <;> decide) (fun _ => by decide)).mono ?_
        · have hj2 : j < 2 := hj
          have hc : j = 0 ∨ j = 1 := by omega
          rcases hc with rfl | rfl
          · exact ⟨_, 0, _, rfl, fun Z _ hq => by rw [cell_of_row Z _ _ _ _ _ (hq _ mem0)]; rfl, src_box (L := pk) mem2 0 4 4 (by decide) (by decide)⟩
          · exact ⟨_, 0, _, rfl, fun Z _ hq => by rw [cell_of_row Z _ _ _ _ _ (hq _ mem0)]; rfl, src_box (L := pr) mem1 0 11 11 (by decide) (by decide)⟩
        · rintro e w' ⟨rfl, h⟩
          exact ⟨rfl, h.sub (by simp)⟩
    exact this
  clear CN
  go_upto_region 3 with (first | (go_at_call 47; refine Calls.mono (counted_any V1) ?_; rintro e W2 ⟨rfl, hb⟩; obtain ⟨g1, g2, g3, W3, W4, W5, hg1, hg2, hg3, hcv1, hcv2, hW5, co⟩ := HP.out W2 hb; have CO : Hid _ := co; clear co hb HP) | (go_at_call 24; refine Calls.mono CO.out ?_; rintro e W6 ⟨rfl, h6⟩; have H6 : Hid _ := h6; clear h6) | (with_reducible refine at_list ?_; first | (refine hold_store 36 (.tmp 2) (.tmp 16) rfl ?_)))
  refine store_row_new rfl 36 (.tmp 2) (.tmp 16) rfl W6.heap.size (VI .u8 (mtag (kl 32) kr)) rfl rfl rfl 36 (VI .u8 (List.replicate 16 0)) (by rw [VI_size, mtag_len]; exact infoT) (by rw [VI_size, VI_size, mtag_len]; rfl) (VI_one _ _) ?_
  have h7 := H6.out.new (.cells (VI .u8 (mtag (kl 32) kr)) 36)
  obtain ⟨p2, hp2⟩ : ∃ p, W6.heap.size = p := ⟨_, rfl⟩
  obtain ⟨W7, hW7⟩ : ∃ V, W6.alloc (.cells (VI .u8 (mtag (kl 32) kr)) 36) = V := ⟨_, rfl⟩
  rw [hW7, hp2] at h7 ⊢
  obtain ⟨s7, hs7⟩ : ∃ s, W7.heap.size = s := ⟨_, rfl⟩
  have hp7 : p2 < s7 := by rw [← hs7]; exact h7.lt mem0
  have e0 := ev_nil' W7
  rw [hs7] at e0
  have H7 : Hid (Ev q W (.pointer (some ⟨q, 0, none⟩)) (olg [4, 11]) [(p2, .cells (VI .u8 (mtag (kl 32) kr)) 36)] W7 ∧ p2 < s7 ∧ W7.heap.size = s7) := ⟨h7, hp7, hs7⟩
  have CN2 : Hid (Calls Try.prog 10 #[.pointer none, .agg (VI .u8 k2)] W7 fun e w' => ∃ g, e = .returned (.pointer (some ⟨g, 0, none⟩)) ∧ W7.heap.size ≤ g ∧ Ev s7 W7 (.pointer none) [] [(g, mst (.pointer none) k2 [])] w') := mnew_any e0 k2_key
  clear h7 hp7 hs7 e0 hW7 hp2 H6 CO hcv1 hcv2 hg1 hg2 hg3 hW5
  go_upto_region 7 with (first | (go_at_call 10; refine Calls.mono CN2.out ?_; rintro e W8 ⟨g, rfl, hg, h8⟩; have CT : Hid _ := mtag_any h8 (fun _ => by decide) k2_key (fun x hx => nomatch hx); clear h8 hg) | (go_at_call 13; refine Calls.mono CT.out ?_; rintro e W9 ⟨rfl, h9⟩; have H9 : Hid _ := h9.nilOf []; clear h9) | (with_reducible refine at_list ?_; first | (refine hold_store 36 (.tmp 4) (.tmp 22) rfl ?_)))
  refine store_row_new rfl 36 (.tmp 4) (.tmp 22) rfl W9.heap.size (VI .u8 (mtag k2 [])) rfl rfl rfl 36 (VI .u8 (List.replicate 16 0)) (by rw [VI_size, mtag_len]; exact infoT) (by rw [VI_size, VI_size, mtag_len]; rfl) (VI_one _ _) ?_
  have h10 := H9.out.new (.cells (VI .u8 (mtag k2 [])) 36)
  have hga := H9.out.lt mem0
  obtain ⟨pa, hpa⟩ : ∃ p, W9.heap.size = p := ⟨_, rfl⟩
  obtain ⟨W10, hW10⟩ : ∃ V, W9.alloc (.cells (VI .u8 (mtag k2 [])) 36) = V := ⟨_, rfl⟩
  rw [hW10, hpa] at h10 ⊢
  rw [hpa] at hga
  have h11 := h10.new (.cells #[.int .u8 1] 5)
  have hgb := h10.lt mem0
  obtain ⟨g8, hg8⟩ : ∃ p, W10.heap.size = p := ⟨_, rfl⟩
  obtain ⟨W11, hW11⟩ : ∃ V, W10.alloc (.cells #[.int .u8 1] 5) = V := ⟨_, rfl⟩
  rw [hW11, hg8] at h11
  rw [hg8] at hgb
  have h12 : Ev s7 W7 (.pointer none) [] [(g, mst (.pointer none) k2 []), (g8, .cells (VI .u8 [1]) 5), (pa, .cells (VI .u8 (mtag k2 [])) 36)] W11 := h11.sub (fun p hp => by
    simp only [List.mem_cons, List.not_mem_nil, or_false] at hp ⊢
    rcases hp with rfl | rfl | rfl
    · exact .inr (.inr rfl)
    · exact .inl rfl
    · exact .inr (.inl rfl))
  have CW : Hid (Calls Try.prog 16 #[.pointer (some ⟨g, 0, none⟩), .slice (some ⟨g8, 0, none⟩) 1 1] W11 fun e w' => e = .returned (.tuple #[]) ∧ Ev s7 W7 (.pointer none) ([] ++ wlog (([] : List Int).length % 16) ([1] : List Int).length) [(g, mst (.pointer none) k2 [1]), (g8, .cells (VI .u8 [1]) 5), (pa, .cells (VI .u8 (mtag k2 [])) 36)] w') := by
    have := mwrite_any (D := [1]) h12 (fun p hp => by
      simp only [List.mem_cons, List.not_mem_nil, or_false] at hp
      rcases hp with rfl | rfl
      · show g8 ≠ g; omega
      · show pa ≠ g; omega) (fun _ => by decide) k2_key (fun x hx => nomatch hx) (by decide) (src_box (L := [1]) mem0 0 1 1 (by decide) (by decide))
    rw [List.nil_append [1]] at this
    exact this
  clear h10 h11 h12 hga hgb H9 CT hW10 hpa CN2
  go_upto_region 9 with (first | (go_at_call 16; refine Calls.mono CW.out ?_; rintro e W12 ⟨rfl, h12⟩; have CT2 : Hid _ := mtag_any h12 (fun _ => by decide) k2_key (by decide); clear h12) | (go_at_call 13; refine Calls.mono CT2.out ?_; rintro e W13 ⟨rfl, h13⟩; have H13 : Hid _ := h13.nilOf []; clear h13) | (with_reducible refine at_list ?_; first | (refine hold_store 36 (.tmp 5) (.tmp 27) rfl ?_)))
  refine store_row_new rfl 36 (.tmp 5) (.tmp 27) rfl W13.heap.size (VI .u8 (mtag k2 [1])) rfl rfl rfl 36 (VI .u8 (List.replicate 16 0)) (by rw [VI_size, mtag_len]; exact infoT) (by rw [VI_size, VI_size, mtag_len]; rfl) (VI_one _ _) ?_
  have h14 := H13.out.new (.cells (VI .u8 (mtag k2 [1])) 36)
  obtain ⟨pb, hpb⟩ : ∃ p, W13.heap.size = p := ⟨_, rfl⟩
  obtain ⟨W14, hW14⟩ : ∃ V, W13.alloc (.cells (VI .u8 (mtag k2 [1])) 36) = V := ⟨_, rfl⟩
  rw [hW14, hpb] at h14 ⊢
  obtain ⟨k0, k15, kne, ka, kb, kt⟩ := kn_t
  have h15 : Ev s7 W7 (.pointer none) [] [(pb, .cells (VI .u8 t18) 36), (pa, .cells (VI .u8 t16) 36)] W14 := by
    rw [← ka, ← kb]
    exact h14.sub (fun p hp => by
      simp only [List.mem_cons, List.not_mem_nil, or_false] at hp ⊢
      rcases hp with rfl | rfl
      · exact .inl rfl
      · exact .inr (.inr (.inr rfl)))
  have H14 : Hid _ := h15
  have HS : Hid (∀ Y, Ev s7 W7 (.pointer none) [] [(pb, .cells (VI .u8 t18) 36), (pa, .cells (VI .u8 t16) 36)] Y → Y.rangeAt p2 0 ((mtag (kl 32) kr).map (Value.int .u8))) := fun Y h => rangeAt_block (row_range (H7.out.1.row mem0)) (h.old.block p2 H7.out.2.1)
  clear h14 h15 hpb hW14 H13 CT2 CW hg8 hW11
  go_upto_region 9 with fail
  refine wp_as (c' := rgKn9) (by kernel_rfl) ?_
  refine Kn9 (p2 := p2) (tg := mtag (kl 32) kr) (mtag_t _ _) H14.out HS.out rfl rfl (fun _ _ d _ _ h => by cases d <;> exact h) ?_
  intro g1 g2 Y hY
  have e6 : decide (mtag (kl 32) kr = mtag (kl 32) kr) = true := by simp
  rw [e6]
  have HY : Hid _ := hY
  clear hY H14
  simp only [Act.put, List.setIfInBounds_toArray, List.set_cons_zero, List.set_cons_succ]
  go_upto_region 10 with fail
  refine wp_as (c' := rgKn10) (by kernel_rfl) ?_
  refine Kn10 (p2 := p2) (tg := mtag (kl 32) kr) (mtag_t _ _) HY.out HS.out rfl rfl (fun _ _ d _ _ h => by cases d <;> exact h) ?_
  intro g3 g4 Z hZ
  have e7 : decide (mtag (kl 32) kR = mtag (kl 32) kr) = false := by simpa using kne
  rw [e7]
  have c0 : Z.cell? ⟨p2, 0, none⟩ = some (.int .u8 218) := by
    rw [HS.out Z hZ 0 (.int .u8 218) (by rw [List.getElem?_map, List.getElem?_eq_getElem (by rw [mtag_len]; decide), ← k0, List.getD_eq_getElem?_getD, List.getElem?_eq_getElem (by rw [mtag_len]; decide)]; rfl)]
  have c15 : Z.cell? ⟨p2, 15, none⟩ = some (.int .u8 54) := by
    rw [show (15 : Nat) = 0 + 15 from rfl, HS.out Z hZ 15 (.int .u8 54) (by rw [List.getElem?_map, List.getElem?_eq_getElem (by rw [mtag_len]; decide), ← k15, List.getD_eq_getElem?_getD, List.getElem?_eq_getElem (by rw [mtag_len]; decide)]; rfl)]
  have LA : Hid (Z.heap[pa]? = some (.cells (VI .u8 t16) 36)) := hZ.row mem1
  have LB : Hid (Z.heap[pb]? = some (.cells (VI .u8 t18) 36)) := hZ.row mem0
  have EQA : ∀ w, (Op.equalIn 10000 36 (.agg (VI .u8 t16)) (.agg #[.int .u8 16, .int .u8 17, .int .u8 0, .int .u8 0, .int .u8 0, .int .u8 0, .int .u8 0, .int .u8 0, .int .u8 0, .int .u8 0, .int .u8 0, .int .u8 0, .int .u8 0, .int .u8 0, .int .u8 0, .int .u8 0])).run Try.prog w = .ok true w := fun w => eqT (x := t16) (y := t16) rfl rfl w
  have EQB : ∀ w, (Op.equalIn 10000 36 (.agg (VI .u8 t18)) (.agg #[.int .u8 18, .int .u8 19, .int .u8 0, .int .u8 0, .int .u8 0, .int .u8 0, .int .u8 0, .int .u8 0, .int .u8 0, .int .u8 0, .int .u8 0, .int .u8 0, .int .u8 0, .int .u8 0, .int .u8 0, .int .u8 0])).run Try.prog w = .ok true w := fun w => eqT (x := t18) (y := t18) rfl rfl w
  have hR := H7.out.1.below (by rw [H7.out.2.2]; exact hZ.old)
  have CTT : Hid (Calls Try.prog 11 #[.pointer (some ⟨q, 0, none⟩)] Z fun e w' => e = .returned (.int .i64 18) ∧ w' = Z) := by
    have := v_total hR
    rw [kt] at this
    exact this
  have HB : Hid (Below q W Z) := hR.old
  have HIA : Hid ((Try.prog.info? 36).map (·.size) = some (VI .u8 t16).size) := by
    have : (Try.prog.info? 36).map (·.size) = some (VI .u8 t16).size := by rw [VI_size]; exact infoT
    exact this
  have HIB : Hid ((Try.prog.info? 36).map (·.size) = some (VI .u8 t18).size) := by
    have : (Try.prog.info? 36).map (·.size) = some (VI .u8 t18).size := by rw [VI_size]; exact infoT
    exact this
  clear hZ HY hR HS H7 k0 k15 kne ka kb kt e6 e7
  simp only [Act.put, List.setIfInBounds_toArray, List.set_cons_zero, List.set_cons_succ]
  go_wp2_with (first | (go_at_call 11; refine Calls.mono CTT.out ?_; rintro e V2 ⟨rfl, hV⟩; obtain rfl := hV) | (with_reducible refine at_list ?_; first | (refine wpList_load_row_g (by kernel_rfl) 36 (.tmp 4) rfl pa rfl 36 (VI .u8 t16) (0, 0) _ LA.out Try.underlying36 rfl HIA.out ?_) | (refine wpList_load_row_g (by kernel_rfl) 36 (.tmp 5) rfl pb rfl 36 (VI .u8 t18) (0, 0) _ LB.out Try.underlying36 rfl HIB.out ?_)))
  go_ret
  exact ⟨rfl, HB.out⟩
end Go.Proofs.Ytgfamcadgahiiaa
namespace Go.Proofs.Ytgfamcadgahiiaa
set_option linter.unusedSimpArgs false
open Go.ChangeShapes Go.WideShapes Go.ChangeAt Go.RowKit Go.Pin Go.Prm
theorem nbk_lt (b : List Int) (hb : ∀ x ∈ b, 0 ≤ x ∧ x < 256) (k : Nat) : nbk b k < 2 ^ (8 * k) := by
  apply Nat.lt_pow_two_of_testBit
  intro i hi
  rw [nbk_bit b hb]
  have : ¬ (i < 8 * k) := by omega
  simp [this]
theorem nbk_add (b : List Int) (hb : ∀ x ∈ b, 0 ≤ x ∧ x < 256) (k : Nat) : nbk b (k + 1) = (b.getD k 0).toNat * 2 ^ (8 * k) + nbk b k := by
  rw [nbk, Nat.or_comm, ← Nat.shiftLeft_add_eq_or_of_lt (nbk_lt b hb k), Nat.shiftLeft_eq]
theorem nb_sum {b : List Int} (hb : ∀ x ∈ b, 0 ≤ x ∧ x < 256) : nb b = (b.getD 0 0).toNat * 1 + (b.getD 1 0).toNat * 256 + (b.getD 2 0).toNat * 65536 + (b.getD 3 0).toNat * 16777216 + (b.getD 4 0).toNat * 4294967296 + (b.getD 5 0).toNat * 1099511627776 + (b.getD 6 0).toNat * 281474976710656 + (b.getD 7 0).toNat * 72057594037927936 + (b.getD 8 0).toNat * 18446744073709551616 + (b.getD 9 0).toNat * 4722366482869645213696 + (b.getD 10 0).toNat * 1208925819614629174706176 + (b.getD 11 0).toNat * 309485009821345068724781056 + (b.getD 12 0).toNat * 79228162514264337593543950336 + (b.getD 13 0).toNat * 20282409603651670423947251286016 + (b.getD 14 0).toNat * 5192296858534827628530496329220096 + (b.getD 15 0).toNat * 1329227995784915872903807060280344576 + (b.getD 16 0).toNat * 340282366920938463463374607431768211456 := by
  have h0 : nbk b 0 = 0 := rfl
  have a0 := nbk_add b hb 0
  have a1 := nbk_add b hb 1
  have a2 := nbk_add b hb 2
  have a3 := nbk_add b hb 3
  have a4 := nbk_add b hb 4
  have a5 := nbk_add b hb 5
  have a6 := nbk_add b hb 6
  have a7 := nbk_add b hb 7
  have a8 := nbk_add b hb 8
  have a9 := nbk_add b hb 9
  have a10 := nbk_add b hb 10
  have a11 := nbk_add b hb 11
  have a12 := nbk_add b hb 12
  have a13 := nbk_add b hb 13
  have a14 := nbk_add b hb 14
  have a15 := nbk_add b hb 15
  have a16 := nbk_add b hb 16
  rw [nb]
  simp only [Nat.reduceMul, Nat.reducePow, Nat.reduceAdd] at *
  omega
theorem byte_nat {b : List Int} (hb : ∀ x ∈ b, 0 ≤ x ∧ x < 256) (i : Nat) : ∃ n : Nat, b.getD i 0 = (n : Int) ∧ (b.getD i 0).toNat = n ∧ n < 256 := by
  have h := byte_at hb i
  exact ⟨(b.getD i 0).toNat, by omega, rfl, by omega⟩
theorem hi_math (n0 n1 n2 n3 n4 n5 n6 n7 n8 n9 n10 n11 n12 n13 n14 n15 n16 : Nat) (h : 3 < n16) : ¬ n0 * 1 + n1 * 256 + n2 * 65536 + n3 * 16777216 + n4 * 4294967296 + n5 * 1099511627776 + n6 * 281474976710656 + n7 * 72057594037927936 + n8 * 18446744073709551616 + n9 * 4722366482869645213696 + n10 * 1208925819614629174706176 + n11 * 309485009821345068724781056 + n12 * 79228162514264337593543950336 + n13 * 20282409603651670423947251286016 + n14 * 5192296858534827628530496329220096 + n15 * 1329227995784915872903807060280344576 + n16 * 340282366920938463463374607431768211456 < 1361129467683753853853498429727072845819 := by omega
theorem mid_math1 (n0 n1 n2 n3 n4 n5 n6 n7 n8 n9 n10 n11 n12 n13 n14 n15 n16 : Nat) (h0 : n0 < 256) (h1 : n1 < 256) (h2 : n2 < 256) (h3 : n3 < 256) (h4 : n4 < 256) (h5 : n5 < 256) (h6 : n6 < 256) (h7 : n7 < 256) (h8 : n8 < 256) (h9 : n9 < 256) (h10 : n10 < 256) (h11 : n11 < 256) (h12 : n12 < 256) (h13 : n13 < 256) (h14 : n14 < 256) (h15 : n15 < 256) (h16 : n16 < 256) (h : n16 ≤ 3) (hi : n1 ≠ 255) : n0 * 1 + n1 * 256 + n2 * 65536 + n3 * 16777216 + n4 * 4294967296 + n5 * 1099511627776 + n6 * 281474976710656 + n7 * 72057594037927936 + n8 * 18446744073709551616 + n9 * 4722366482869645213696 + n10 * 1208925819614629174706176 + n11 * 309485009821345068724781056 + n12 * 79228162514264337593543950336 + n13 * 20282409603651670423947251286016 + n14 * 5192296858534827628530496329220096 + n15 * 1329227995784915872903807060280344576 + n16 * 340282366920938463463374607431768211456 < 1361129467683753853853498429727072845819 := by omega
theorem mid_math2 (n0 n1 n2 n3 n4 n5 n6 n7 n8 n9 n10 n11 n12 n13 n14 n15 n16 : Nat) (h0 : n0 < 256) (h1 : n1 < 256) (h2 : n2 < 256) (h3 : n3 < 256) (h4 : n4 < 256) (h5 : n5 < 256) (h6 : n6 < 256) (h7 : n7 < 256) (h8 : n8 < 256) (h9 : n9 < 256) (h10 : n10 < 256) (h11 : n11 < 256) (h12 : n12 < 256) (h13 : n13 < 256) (h14 : n14 < 256) (h15 : n15 < 256) (h16 : n16 < 256) (h : n16 ≤ 3) (hi : n2 ≠ 255) : n0 * 1 + n1 * 256 + n2 * 65536 + n3 * 16777216 + n4 * 4294967296 + n5 * 1099511627776 + n6 * 281474976710656 + n7 * 72057594037927936 + n8 * 18446744073709551616 + n9 * 4722366482869645213696 + n10 * 1208925819614629174706176 + n11 * 309485009821345068724781056 + n12 * 79228162514264337593543950336 + n13 * 20282409603651670423947251286016 + n14 * 5192296858534827628530496329220096 + n15 * 1329227995784915872903807060280344576 + n16 * 340282366920938463463374607431768211456 < 1361129467683753853853498429727072845819 := by omega
theorem mid_math3 (n0 n1 n2 n3 n4 n5 n6 n7 n8 n9 n10 n11 n12 n13 n14 n15 n16 : Nat) (h0 : n0 < 256) (h1 : n1 < 256) (h2 : n2 < 256) (h3 : n3 < 256) (h4 : n4 < 256) (h5 : n5 < 256) (h6 : n6 < 256) (h7 : n7 < 256) (h8 : n8 < 256) (h9 : n9 < 256) (h10 : n10 < 256) (h11 : n11 < 256) (h12 : n12 < 256) (h13 : n13 < 256) (h14 : n14 < 256) (h15 : n15 < 256) (h16 : n16 < 256) (h : n16 ≤ 3) (hi : n3 ≠ 255) : n0 * 1 + n1 * 256 + n2 * 65536 + n3 * 16777216 + n4 * 4294967296 + n5 * 1099511627776 + n6 * 281474976710656 + n7 * 72057594037927936 + n8 * 18446744073709551616 + n9 * 4722366482869645213696 + n10 * 1208925819614629174706176 + n11 * 309485009821345068724781056 + n12 * 79228162514264337593543950336 + n13 * 20282409603651670423947251286016 + n14 * 5192296858534827628530496329220096 + n15 * 1329227995784915872903807060280344576 + n16 * 340282366920938463463374607431768211456 < 1361129467683753853853498429727072845819 := by omega
theorem mid_math4 (n0 n1 n2 n3 n4 n5 n6 n7 n8 n9 n10 n11 n12 n13 n14 n15 n16 : Nat) (h0 : n0 < 256) (h1 : n1 < 256) (h2 : n2 < 256) (h3 : n3 < 256) (h4 : n4 < 256) (h5 : n5 < 256) (h6 : n6 < 256) (h7 : n7 < 256) (h8 : n8 < 256) (h9 : n9 < 256) (h10 : n10 < 256) (h11 : n11 < 256) (h12 : n12 < 256) (h13 : n13 < 256) (h14 : n14 < 256) (h15 : n15 < 256) (h16 : n16 < 256) (h : n16 ≤ 3) (hi : n4 ≠ 255) : n0 * 1 + n1 * 256 + n2 * 65536 + n3 * 16777216 + n4 * 4294967296 + n5 * 1099511627776 + n6 * 281474976710656 + n7 * 72057594037927936 + n8 * 18446744073709551616 + n9 * 4722366482869645213696 + n10 * 1208925819614629174706176 + n11 * 309485009821345068724781056 + n12 * 79228162514264337593543950336 + n13 * 20282409603651670423947251286016 + n14 * 5192296858534827628530496329220096 + n15 * 1329227995784915872903807060280344576 + n16 * 340282366920938463463374607431768211456 < 1361129467683753853853498429727072845819 := by omega
theorem mid_math5 (n0 n1 n2 n3 n4 n5 n6 n7 n8 n9 n10 n11 n12 n13 n14 n15 n16 : Nat) (h0 : n0 < 256) (h1 : n1 < 256) (h2 : n2 < 256) (h3 : n3 < 256) (h4 : n4 < 256) (h5 : n5 < 256) (h6 : n6 < 256) (h7 : n7 < 256) (h8 : n8 < 256) (h9 : n9 < 256) (h10 : n10 < 256) (h11 : n11 < 256) (h12 : n12 < 256) (h13 : n13 < 256) (h14 : n14 < 256) (h15 : n15 < 256) (h16 : n16 < 256) (h : n16 ≤ 3) (hi : n5 ≠ 255) : n0 * 1 + n1 * 256 + n2 * 65536 + n3 * 16777216 + n4 * 4294967296 + n5 * 1099511627776 + n6 * 281474976710656 + n7 * 72057594037927936 + n8 * 18446744073709551616 + n9 * 4722366482869645213696 + n10 * 1208925819614629174706176 + n11 * 309485009821345068724781056 + n12 * 79228162514264337593543950336 + n13 * 20282409603651670423947251286016 + n14 * 5192296858534827628530496329220096 + n15 * 1329227995784915872903807060280344576 + n16 * 340282366920938463463374607431768211456 < 1361129467683753853853498429727072845819 := by omega
theorem mid_math6 (n0 n1 n2 n3 n4 n5 n6 n7 n8 n9 n10 n11 n12 n13 n14 n15 n16 : Nat) (h0 : n0 < 256) (h1 : n1 < 256) (h2 : n2 < 256) (h3 : n3 < 256) (h4 : n4 < 256) (h5 : n5 < 256) (h6 : n6 < 256) (h7 : n7 < 256) (h8 : n8 < 256) (h9 : n9 < 256) (h10 : n10 < 256) (h11 : n11 < 256) (h12 : n12 < 256) (h13 : n13 < 256) (h14 : n14 < 256) (h15 : n15 < 256) (h16 : n16 < 256) (h : n16 ≤ 3) (hi : n6 ≠ 255) : n0 * 1 + n1 * 256 + n2 * 65536 + n3 * 16777216 + n4 * 4294967296 + n5 * 1099511627776 + n6 * 281474976710656 + n7 * 72057594037927936 + n8 * 18446744073709551616 + n9 * 4722366482869645213696 + n10 * 1208925819614629174706176 + n11 * 309485009821345068724781056 + n12 * 79228162514264337593543950336 + n13 * 20282409603651670423947251286016 + n14 * 5192296858534827628530496329220096 + n15 * 1329227995784915872903807060280344576 + n16 * 340282366920938463463374607431768211456 < 1361129467683753853853498429727072845819 := by omega
theorem mid_math7 (n0 n1 n2 n3 n4 n5 n6 n7 n8 n9 n10 n11 n12 n13 n14 n15 n16 : Nat) (h0 : n0 < 256) (h1 : n1 < 256) (h2 : n2 < 256) (h3 : n3 < 256) (h4 : n4 < 256) (h5 : n5 < 256) (h6 : n6 < 256) (h7 : n7 < 256) (h8 : n8 < 256) (h9 : n9 < 256) (h10 : n10 < 256) (h11 : n11 < 256) (h12 : n12 < 256) (h13 : n13 < 256) (h14 : n14 < 256) (h15 : n15 < 256) (h16 : n16 < 256) (h : n16 ≤ 3) (hi : n7 ≠ 255) : n0 * 1 + n1 * 256 + n2 * 65536 + n3 * 16777216 + n4 * 4294967296 + n5 * 1099511627776 + n6 * 281474976710656 + n7 * 72057594037927936 + n8 * 18446744073709551616 + n9 * 4722366482869645213696 + n10 * 1208925819614629174706176 + n11 * 309485009821345068724781056 + n12 * 79228162514264337593543950336 + n13 * 20282409603651670423947251286016 + n14 * 5192296858534827628530496329220096 + n15 * 1329227995784915872903807060280344576 + n16 * 340282366920938463463374607431768211456 < 1361129467683753853853498429727072845819 := by omega
theorem mid_math8 (n0 n1 n2 n3 n4 n5 n6 n7 n8 n9 n10 n11 n12 n13 n14 n15 n16 : Nat) (h0 : n0 < 256) (h1 : n1 < 256) (h2 : n2 < 256) (h3 : n3 < 256) (h4 : n4 < 256) (h5 : n5 < 256) (h6 : n6 < 256) (h7 : n7 < 256) (h8 : n8 < 256) (h9 : n9 < 256) (h10 : n10 < 256) (h11 : n11 < 256) (h12 : n12 < 256) (h13 : n13 < 256) (h14 : n14 < 256) (h15 : n15 < 256) (h16 : n16 < 256) (h : n16 ≤ 3) (hi : n8 ≠ 255) : n0 * 1 + n1 * 256 + n2 * 65536 + n3 * 16777216 + n4 * 4294967296 + n5 * 1099511627776 + n6 * 281474976710656 + n7 * 72057594037927936 + n8 * 18446744073709551616 + n9 * 4722366482869645213696 + n10 * 1208925819614629174706176 + n11 * 309485009821345068724781056 + n12 * 79228162514264337593543950336 + n13 * 20282409603651670423947251286016 + n14 * 5192296858534827628530496329220096 + n15 * 1329227995784915872903807060280344576 + n16 * 340282366920938463463374607431768211456 < 1361129467683753853853498429727072845819 := by omega
theorem mid_math9 (n0 n1 n2 n3 n4 n5 n6 n7 n8 n9 n10 n11 n12 n13 n14 n15 n16 : Nat) (h0 : n0 < 256) (h1 : n1 < 256) (h2 : n2 < 256) (h3 : n3 < 256) (h4 : n4 < 256) (h5 : n5 < 256) (h6 : n6 < 256) (h7 : n7 < 256) (h8 : n8 < 256) (h9 : n9 < 256) (h10 : n10 < 256) (h11 : n11 < 256) (h12 : n12 < 256) (h13 : n13 < 256) (h14 : n14 < 256) (h15 : n15 < 256) (h16 : n16 < 256) (h : n16 ≤ 3) (hi : n9 ≠ 255) : n0 * 1 + n1 * 256 + n2 * 65536 + n3 * 16777216 + n4 * 4294967296 + n5 * 1099511627776 + n6 * 281474976710656 + n7 * 72057594037927936 + n8 * 18446744073709551616 + n9 * 4722366482869645213696 + n10 * 1208925819614629174706176 + n11 * 309485009821345068724781056 + n12 * 79228162514264337593543950336 + n13 * 20282409603651670423947251286016 + n14 * 5192296858534827628530496329220096 + n15 * 1329227995784915872903807060280344576 + n16 * 340282366920938463463374607431768211456 < 1361129467683753853853498429727072845819 := by omega
theorem mid_math10 (n0 n1 n2 n3 n4 n5 n6 n7 n8 n9 n10 n11 n12 n13 n14 n15 n16 : Nat) (h0 : n0 < 256) (h1 : n1 < 256) (h2 : n2 < 256) (h3 : n3 < 256) (h4 : n4 < 256) (h5 : n5 < 256) (h6 : n6 < 256) (h7 : n7 < 256) (h8 : n8 < 256) (h9 : n9 < 256) (h10 : n10 < 256) (h11 : n11 < 256) (h12 : n12 < 256) (h13 : n13 < 256) (h14 : n14 < 256) (h15 : n15 < 256) (h16 : n16 < 256) (h : n16 ≤ 3) (hi : n10 ≠ 255) : n0 * 1 + n1 * 256 + n2 * 65536 + n3 * 16777216 + n4 * 4294967296 + n5 * 1099511627776 + n6 * 281474976710656 + n7 * 72057594037927936 + n8 * 18446744073709551616 + n9 * 4722366482869645213696 + n10 * 1208925819614629174706176 + n11 * 309485009821345068724781056 + n12 * 79228162514264337593543950336 + n13 * 20282409603651670423947251286016 + n14 * 5192296858534827628530496329220096 + n15 * 1329227995784915872903807060280344576 + n16 * 340282366920938463463374607431768211456 < 1361129467683753853853498429727072845819 := by omega
theorem mid_math11 (n0 n1 n2 n3 n4 n5 n6 n7 n8 n9 n10 n11 n12 n13 n14 n15 n16 : Nat) (h0 : n0 < 256) (h1 : n1 < 256) (h2 : n2 < 256) (h3 : n3 < 256) (h4 : n4 < 256) (h5 : n5 < 256) (h6 : n6 < 256) (h7 : n7 < 256) (h8 : n8 < 256) (h9 : n9 < 256) (h10 : n10 < 256) (h11 : n11 < 256) (h12 : n12 < 256) (h13 : n13 < 256) (h14 : n14 < 256) (h15 : n15 < 256) (h16 : n16 < 256) (h : n16 ≤ 3) (hi : n11 ≠ 255) : n0 * 1 + n1 * 256 + n2 * 65536 + n3 * 16777216 + n4 * 4294967296 + n5 * 1099511627776 + n6 * 281474976710656 + n7 * 72057594037927936 + n8 * 18446744073709551616 + n9 * 4722366482869645213696 + n10 * 1208925819614629174706176 + n11 * 309485009821345068724781056 + n12 * 79228162514264337593543950336 + n13 * 20282409603651670423947251286016 + n14 * 5192296858534827628530496329220096 + n15 * 1329227995784915872903807060280344576 + n16 * 340282366920938463463374607431768211456 < 1361129467683753853853498429727072845819 := by omega
theorem mid_math12 (n0 n1 n2 n3 n4 n5 n6 n7 n8 n9 n10 n11 n12 n13 n14 n15 n16 : Nat) (h0 : n0 < 256) (h1 : n1 < 256) (h2 : n2 < 256) (h3 : n3 < 256) (h4 : n4 < 256) (h5 : n5 < 256) (h6 : n6 < 256) (h7 : n7 < 256) (h8 : n8 < 256) (h9 : n9 < 256) (h10 : n10 < 256) (h11 : n11 < 256) (h12 : n12 < 256) (h13 : n13 < 256) (h14 : n14 < 256) (h15 : n15 < 256) (h16 : n16 < 256) (h : n16 ≤ 3) (hi : n12 ≠ 255) : n0 * 1 + n1 * 256 + n2 * 65536 + n3 * 16777216 + n4 * 4294967296 + n5 * 1099511627776 + n6 * 281474976710656 + n7 * 72057594037927936 + n8 * 18446744073709551616 + n9 * 4722366482869645213696 + n10 * 1208925819614629174706176 + n11 * 309485009821345068724781056 + n12 * 79228162514264337593543950336 + n13 * 20282409603651670423947251286016 + n14 * 5192296858534827628530496329220096 + n15 * 1329227995784915872903807060280344576 + n16 * 340282366920938463463374607431768211456 < 1361129467683753853853498429727072845819 := by omega
theorem mid_math13 (n0 n1 n2 n3 n4 n5 n6 n7 n8 n9 n10 n11 n12 n13 n14 n15 n16 : Nat) (h0 : n0 < 256) (h1 : n1 < 256) (h2 : n2 < 256) (h3 : n3 < 256) (h4 : n4 < 256) (h5 : n5 < 256) (h6 : n6 < 256) (h7 : n7 < 256) (h8 : n8 < 256) (h9 : n9 < 256) (h10 : n10 < 256) (h11 : n11 < 256) (h12 : n12 < 256) (h13 : n13 < 256) (h14 : n14 < 256) (h15 : n15 < 256) (h16 : n16 < 256) (h : n16 ≤ 3) (hi : n13 ≠ 255) : n0 * 1 + n1 * 256 + n2 * 65536 + n3 * 16777216 + n4 * 4294967296 + n5 * 1099511627776 + n6 * 281474976710656 + n7 * 72057594037927936 + n8 * 18446744073709551616 + n9 * 4722366482869645213696 + n10 * 1208925819614629174706176 + n11 * 309485009821345068724781056 + n12 * 79228162514264337593543950336 + n13 * 20282409603651670423947251286016 + n14 * 5192296858534827628530496329220096 + n15 * 1329227995784915872903807060280344576 + n16 * 340282366920938463463374607431768211456 < 1361129467683753853853498429727072845819 := by omega
theorem mid_math14 (n0 n1 n2 n3 n4 n5 n6 n7 n8 n9 n10 n11 n12 n13 n14 n15 n16 : Nat) (h0 : n0 < 256) (h1 : n1 < 256) (h2 : n2 < 256) (h3 : n3 < 256) (h4 : n4 < 256) (h5 : n5 < 256) (h6 : n6 < 256) (h7 : n7 < 256) (h8 : n8 < 256) (h9 : n9 < 256) (h10 : n10 < 256) (h11 : n11 < 256) (h12 : n12 < 256) (h13 : n13 < 256) (h14 : n14 < 256) (h15 : n15 < 256) (h16 : n16 < 256) (h : n16 ≤ 3) (hi : n14 ≠ 255) : n0 * 1 + n1 * 256 + n2 * 65536 + n3 * 16777216 + n4 * 4294967296 + n5 * 1099511627776 + n6 * 281474976710656 + n7 * 72057594037927936 + n8 * 18446744073709551616 + n9 * 4722366482869645213696 + n10 * 1208925819614629174706176 + n11 * 309485009821345068724781056 + n12 * 79228162514264337593543950336 + n13 * 20282409603651670423947251286016 + n14 * 5192296858534827628530496329220096 + n15 * 1329227995784915872903807060280344576 + n16 * 340282366920938463463374607431768211456 < 1361129467683753853853498429727072845819 := by omega
theorem mid_math15 (n0 n1 n2 n3 n4 n5 n6 n7 n8 n9 n10 n11 n12 n13 n14 n15 n16 : Nat) (h0 : n0 < 256) (h1 : n1 < 256) (h2 : n2 < 256) (h3 : n3 < 256) (h4 : n4 < 256) (h5 : n5 < 256) (h6 : n6 < 256) (h7 : n7 < 256) (h8 : n8 < 256) (h9 : n9 < 256) (h10 : n10 < 256) (h11 : n11 < 256) (h12 : n12 < 256) (h13 : n13 < 256) (h14 : n14 < 256) (h15 : n15 < 256) (h16 : n16 < 256) (h : n16 ≤ 3) (hi : n15 ≠ 255) : n0 * 1 + n1 * 256 + n2 * 65536 + n3 * 16777216 + n4 * 4294967296 + n5 * 1099511627776 + n6 * 281474976710656 + n7 * 72057594037927936 + n8 * 18446744073709551616 + n9 * 4722366482869645213696 + n10 * 1208925819614629174706176 + n11 * 309485009821345068724781056 + n12 * 79228162514264337593543950336 + n13 * 20282409603651670423947251286016 + n14 * 5192296858534827628530496329220096 + n15 * 1329227995784915872903807060280344576 + n16 * 340282366920938463463374607431768211456 < 1361129467683753853853498429727072845819 := by omega
theorem end_math (n0 n16 : Nat) (h0 : n0 < 256) (h : n16 ≤ 3) : n0 * 1 + 255 * 256 + 255 * 65536 + 255 * 16777216 + 255 * 4294967296 + 255 * 1099511627776 + 255 * 281474976710656 + 255 * 72057594037927936 + 255 * 18446744073709551616 + 255 * 4722366482869645213696 + 255 * 1208925819614629174706176 + 255 * 309485009821345068724781056 + 255 * 79228162514264337593543950336 + 255 * 20282409603651670423947251286016 + 255 * 5192296858534827628530496329220096 + 255 * 1329227995784915872903807060280344576 + n16 * 340282366920938463463374607431768211456 < 1361129467683753853853498429727072845819 ↔ (n16 < 3 ∨ n0 < 251) := by omega
theorem below_hi {b : List Int} (hb : ∀ x ∈ b, 0 ≤ x ∧ x < 256) (h : 3 < b.getD 16 0) : ¬ nb b < P := by
  rw [nb_sum hb]
  unfold P
  obtain ⟨n0, e0, f0, h0⟩ := byte_nat hb 0
  obtain ⟨n1, e1, f1, h1⟩ := byte_nat hb 1
  obtain ⟨n2, e2, f2, h2⟩ := byte_nat hb 2
  obtain ⟨n3, e3, f3, h3⟩ := byte_nat hb 3
  obtain ⟨n4, e4, f4, h4⟩ := byte_nat hb 4
  obtain ⟨n5, e5, f5, h5⟩ := byte_nat hb 5
  obtain ⟨n6, e6, f6, h6⟩ := byte_nat hb 6
  obtain ⟨n7, e7, f7, h7⟩ := byte_nat hb 7
  obtain ⟨n8, e8, f8, h8⟩ := byte_nat hb 8
  obtain ⟨n9, e9, f9, h9⟩ := byte_nat hb 9
  obtain ⟨n10, e10, f10, h10⟩ := byte_nat hb 10
  obtain ⟨n11, e11, f11, h11⟩ := byte_nat hb 11
  obtain ⟨n12, e12, f12, h12⟩ := byte_nat hb 12
  obtain ⟨n13, e13, f13, h13⟩ := byte_nat hb 13
  obtain ⟨n14, e14, f14, h14⟩ := byte_nat hb 14
  obtain ⟨n15, e15, f15, h15⟩ := byte_nat hb 15
  obtain ⟨n16, e16, f16, h16⟩ := byte_nat hb 16
  rw [f0, f1, f2, f3, f4, f5, f6, f7, f8, f9, f10, f11, f12, f13, f14, f15, f16]
  exact hi_math n0 n1 n2 n3 n4 n5 n6 n7 n8 n9 n10 n11 n12 n13 n14 n15 n16 (by omega)
theorem below_mid {b : List Int} (hb : ∀ x ∈ b, 0 ≤ x ∧ x < 256) (h : b.getD 16 0 ≤ 3) (i : Nat) (i1 : 1 ≤ i) (i2 : i < 16) (hi : b.getD i 0 ≠ 255) : nb b < P := by
  rw [nb_sum hb]
  unfold P
  obtain ⟨n0, e0, f0, h0⟩ := byte_nat hb 0
  obtain ⟨n1, e1, f1, h1⟩ := byte_nat hb 1
  obtain ⟨n2, e2, f2, h2⟩ := byte_nat hb 2
  obtain ⟨n3, e3, f3, h3⟩ := byte_nat hb 3
  obtain ⟨n4, e4, f4, h4⟩ := byte_nat hb 4
  obtain ⟨n5, e5, f5, h5⟩ := byte_nat hb 5
  obtain ⟨n6, e6, f6, h6⟩ := byte_nat hb 6
  obtain ⟨n7, e7, f7, h7⟩ := byte_nat hb 7
  obtain ⟨n8, e8, f8, h8⟩ := byte_nat hb 8
  obtain ⟨n9, e9, f9, h9⟩ := byte_nat hb 9
  obtain ⟨n10, e10, f10, h10⟩ := byte_nat hb 10
  obtain ⟨n11, e11, f11, h11⟩ := byte_nat hb 11
  obtain ⟨n12, e12, f12, h12⟩ := byte_nat hb 12
  obtain ⟨n13, e13, f13, h13⟩ := byte_nat hb 13
  obtain ⟨n14, e14, f14, h14⟩ := byte_nat hb 14
  obtain ⟨n15, e15, f15, h15⟩ := byte_nat hb 15
  obtain ⟨n16, e16, f16, h16⟩ := byte_nat hb 16
  rw [f0, f1, f2, f3, f4, f5, f6, f7, f8, f9, f10, f11, f12, f13, f14, f15, f16]
  have hh : i = 1 ∨ i = 2 ∨ i = 3 ∨ i = 4 ∨ i = 5 ∨ i = 6 ∨ i = 7 ∨ i = 8 ∨ i = 9 ∨ i = 10 ∨ i = 11 ∨ i = 12 ∨ i = 13 ∨ i = 14 ∨ i = 15 := by omega
  have h16' : n16 ≤ 3 := by omega
  rcases hh with rfl | rfl | rfl | rfl | rfl | rfl | rfl | rfl | rfl | rfl | rfl | rfl | rfl | rfl | rfl
  · exact mid_math1 n0 n1 n2 n3 n4 n5 n6 n7 n8 n9 n10 n11 n12 n13 n14 n15 n16 h0 h1 h2 h3 h4 h5 h6 h7 h8 h9 h10 h11 h12 h13 h14 h15 h16 h16' (by omega)
  · exact mid_math2 n0 n1 n2 n3 n4 n5 n6 n7 n8 n9 n10 n11 n12 n13 n14 n15 n16 h0 h1 h2 h3 h4 h5 h6 h7 h8 h9 h10 h11 h12 h13 h14 h15 h16 h16' (by omega)
  · exact mid_math3 n0 n1 n2 n3 n4 n5 n6 n7 n8 n9 n10 n11 n12 n13 n14 n15 n16 h0 h1 h2 h3 h4 h5 h6 h7 h8 h9 h10 h11 h12 h13 h14 h15 h16 h16' (by omega)
  · exact mid_math4 n0 n1 n2 n3 n4 n5 n6 n7 n8 n9 n10 n11 n12 n13 n14 n15 n16 h0 h1 h2 h3 h4 h5 h6 h7 h8 h9 h10 h11 h12 h13 h14 h15 h16 h16' (by omega)
  · exact mid_math5 n0 n1 n2 n3 n4 n5 n6 n7 n8 n9 n10 n11 n12 n13 n14 n15 n16 h0 h1 h2 h3 h4 h5 h6 h7 h8 h9 h10 h11 h12 h13 h14 h15 h16 h16' (by omega)
  · exact mid_math6 n0 n1 n2 n3 n4 n5 n6 n7 n8 n9 n10 n11 n12 n13 n14 n15 n16 h0 h1 h2 h3 h4 h5 h6 h7 h8 h9 h10 h11 h12 h13 h14 h15 h16 h16' (by omega)
  · exact mid_math7 n0 n1 n2 n3 n4 n5 n6 n7 n8 n9 n10 n11 n12 n13 n14 n15 n16 h0 h1 h2 h3 h4 h5 h6 h7 h8 h9 h10 h11 h12 h13 h14 h15 h16 h16' (by omega)
  · exact mid_math8 n0 n1 n2 n3 n4 n5 n6 n7 n8 n9 n10 n11 n12 n13 n14 n15 n16 h0 h1 h2 h3 h4 h5 h6 h7 h8 h9 h10 h11 h12 h13 h14 h15 h16 h16' (by omega)
  · exact mid_math9 n0 n1 n2 n3 n4 n5 n6 n7 n8 n9 n10 n11 n12 n13 n14 n15 n16 h0 h1 h2 h3 h4 h5 h6 h7 h8 h9 h10 h11 h12 h13 h14 h15 h16 h16' (by omega)
  · exact mid_math10 n0 n1 n2 n3 n4 n5 n6 n7 n8 n9 n10 n11 n12 n13 n14 n15 n16 h0 h1 h2 h3 h4 h5 h6 h7 h8 h9 h10 h11 h12 h13 h14 h15 h16 h16' (by omega)
  · exact mid_math11 n0 n1 n2 n3 n4 n5 n6 n7 n8 n9 n10 n11 n12 n13 n14 n15 n16 h0 h1 h2 h3 h4 h5 h6 h7 h8 h9 h10 h11 h12 h13 h14 h15 h16 h16' (by omega)
  · exact mid_math12 n0 n1 n2 n3 n4 n5 n6 n7 n8 n9 n10 n11 n12 n13 n14 n15 n16 h0 h1 h2 h3 h4 h5 h6 h7 h8 h9 h10 h11 h12 h13 h14 h15 h16 h16' (by omega)
  · exact mid_math13 n0 n1 n2 n3 n4 n5 n6 n7 n8 n9 n10 n11 n12 n13 n14 n15 n16 h0 h1 h2 h3 h4 h5 h6 h7 h8 h9 h10 h11 h12 h13 h14 h15 h16 h16' (by omega)
  · exact mid_math14 n0 n1 n2 n3 n4 n5 n6 n7 n8 n9 n10 n11 n12 n13 n14 n15 n16 h0 h1 h2 h3 h4 h5 h6 h7 h8 h9 h10 h11 h12 h13 h14 h15 h16 h16' (by omega)
  · exact mid_math15 n0 n1 n2 n3 n4 n5 n6 n7 n8 n9 n10 n11 n12 n13 n14 n15 n16 h0 h1 h2 h3 h4 h5 h6 h7 h8 h9 h10 h11 h12 h13 h14 h15 h16 h16' (by omega)
theorem below_end {b : List Int} (hb : ∀ x ∈ b, 0 ≤ x ∧ x < 256) (h : b.getD 16 0 ≤ 3) (hm : ∀ j, 1 ≤ j → j < 16 → b.getD j 0 = 255) : nb b < P ↔ (b.getD 16 0 < 3 ∨ b.getD 0 0 < 251) := by
  rw [nb_sum hb]
  unfold P
  obtain ⟨n0, e0, f0, h0⟩ := byte_nat hb 0
  obtain ⟨n1, e1, f1, h1⟩ := byte_nat hb 1
  obtain ⟨n2, e2, f2, h2⟩ := byte_nat hb 2
  obtain ⟨n3, e3, f3, h3⟩ := byte_nat hb 3
  obtain ⟨n4, e4, f4, h4⟩ := byte_nat hb 4
  obtain ⟨n5, e5, f5, h5⟩ := byte_nat hb 5
  obtain ⟨n6, e6, f6, h6⟩ := byte_nat hb 6
  obtain ⟨n7, e7, f7, h7⟩ := byte_nat hb 7
  obtain ⟨n8, e8, f8, h8⟩ := byte_nat hb 8
  obtain ⟨n9, e9, f9, h9⟩ := byte_nat hb 9
  obtain ⟨n10, e10, f10, h10⟩ := byte_nat hb 10
  obtain ⟨n11, e11, f11, h11⟩ := byte_nat hb 11
  obtain ⟨n12, e12, f12, h12⟩ := byte_nat hb 12
  obtain ⟨n13, e13, f13, h13⟩ := byte_nat hb 13
  obtain ⟨n14, e14, f14, h14⟩ := byte_nat hb 14
  obtain ⟨n15, e15, f15, h15⟩ := byte_nat hb 15
  obtain ⟨n16, e16, f16, h16⟩ := byte_nat hb 16
  rw [f0, f1, f2, f3, f4, f5, f6, f7, f8, f9, f10, f11, f12, f13, f14, f15, f16]
  have m1 : n1 = 255 := by have := hm 1 (by decide) (by decide); omega
  have m2 : n2 = 255 := by have := hm 2 (by decide) (by decide); omega
  have m3 : n3 = 255 := by have := hm 3 (by decide) (by decide); omega
  have m4 : n4 = 255 := by have := hm 4 (by decide) (by decide); omega
  have m5 : n5 = 255 := by have := hm 5 (by decide) (by decide); omega
  have m6 : n6 = 255 := by have := hm 6 (by decide) (by decide); omega
  have m7 : n7 = 255 := by have := hm 7 (by decide) (by decide); omega
  have m8 : n8 = 255 := by have := hm 8 (by decide) (by decide); omega
  have m9 : n9 = 255 := by have := hm 9 (by decide) (by decide); omega
  have m10 : n10 = 255 := by have := hm 10 (by decide) (by decide); omega
  have m11 : n11 = 255 := by have := hm 11 (by decide) (by decide); omega
  have m12 : n12 = 255 := by have := hm 12 (by decide) (by decide); omega
  have m13 : n13 = 255 := by have := hm 13 (by decide) (by decide); omega
  have m14 : n14 = 255 := by have := hm 14 (by decide) (by decide); omega
  have m15 : n15 = 255 := by have := hm 15 (by decide) (by decide); omega
  subst m1 m2 m3 m4 m5 m6 m7 m8 m9 m10 m11 m12 m13 m14 m15
  have hE := end_math n0 n16 h0 (by omega)
  rw [e0, e16]
  refine hE.trans ?_
  omega
end Go.Proofs.Ytgfamcadgahiiaa
namespace Go.Prm
open Go
def VB : List Int → Int
  | [] => 0
  | x :: l => x + 256 * VB l
theorem VB_cons (x : Int) (l : List Int) : VB (x :: l) = x + 256 * VB l := rfl
theorem VB_nil : VB [] = 0 := rfl
def cd : Int → List Int → List Int
  | _, [] => []
  | o, x :: l => (o + x) % 256 :: cd ((o + x) / 256) l
def cc : Int → List Int → Int
  | o, [] => o
  | o, x :: l => cc ((o + x) / 256) l
@[simp] theorem cd_len : ∀ (l : List Int) (o : Int), (cd o l).length = l.length
  | [], _ => rfl
  | _ :: l, _ => by simp [cd, cd_len l]
theorem cd_VB : ∀ (l : List Int) (o : Int), VB (cd o l) + (256 : Int) ^ l.length * cc o l = VB l + o
  | [], o => by simp [VB, cd, cc]
  | x :: l, o => by
    have ih := cd_VB l ((o + x) / 256)
    simp only [cd, cc, VB, List.length_cons]
    have hd := Int.emod_add_mul_ediv (o + x) 256
    rw [Int.pow_succ]
    have e : (o + x) % 256 + 256 * VB (cd ((o + x) / 256) l) + (256 : Int) ^ l.length * 256 * cc ((o + x) / 256) l = (o + x) % 256 + 256 * (VB (cd ((o + x) / 256) l) + (256 : Int) ^ l.length * cc ((o + x) / 256) l) := by grind
    rw [e, ih]
    grind
theorem cd_bd : ∀ (l : List Int) (o : Int), ∀ x ∈ cd o l, 0 ≤ x ∧ x < 256
  | [], _ => by simp [cd]
  | y :: l, o => by
    intro x hx
    rw [cd, List.mem_cons] at hx
    rcases hx with rfl | hx
    · omega
    · exact cd_bd l _ x hx
theorem cc_bd : ∀ (l : List Int) (o B : Int), 0 ≤ o → o ≤ B → (∀ x ∈ l, 0 ≤ x ∧ x + B < 256 * (B + 1)) → 0 ≤ cc o l ∧ cc o l ≤ B
  | [], o, B, h0, h1, _ => ⟨h0, h1⟩
  | x :: l, o, B, h0, h1, h => by
    have hx := h x (by simp)
    rw [cc]
    refine cc_bd l _ B (by omega) ?_ (fun y hy => h y (by simp [hy]))
    omega
def dgs (n : Nat) : List Int := if n = 0 then [] else ((n % 256 : Nat) : Int) :: dgs (n / 256)
  termination_by n
  decreasing_by omega
theorem dgs_zero : dgs 0 = [] := by rw [dgs]; rfl
theorem dgs_pos (n : Nat) (h : 0 < n) : dgs n = ((n % 256 : Nat) : Int) :: dgs (n / 256) := by rw [dgs, if_neg (by omega)]
theorem dgs_VB (n : Nat) : VB (dgs n) = (n : Int) := by
  induction n using Nat.strongRecOn with
  | ind n ih =>
    by_cases h : n = 0
    · subst h; rw [dgs_zero]; rfl
    · rw [dgs_pos n (by omega), VB_cons, ih (n / 256) (by omega)]; omega
theorem dgs_bd (n : Nat) : ∀ x ∈ dgs n, 0 ≤ x ∧ x < 256 := by
  induction n using Nat.strongRecOn with
  | ind n ih =>
    by_cases h : n = 0
    · subst h; rw [dgs_zero]; simp
    · rw [dgs_pos n (by omega)]
      intro x hx
      rcases List.mem_cons.1 hx with rfl | hx
      · omega
      · exact ih (n / 256) (by omega) x hx
theorem dgs_len : ∀ (k n : Nat), n < 256 ^ k → (dgs n).length ≤ k
  | 0, n, h => by
    have : n = 0 := by simpa using h
    subst this; rw [dgs_zero]; simp
  | k + 1, n, h => by
    by_cases h0 : n = 0
    · subst h0; rw [dgs_zero]; simp
    · rw [dgs_pos n (by omega), List.length_cons]
      have := dgs_len k (n / 256) (by rw [Nat.pow_succ] at h; omega)
      omega
theorem VB_append : ∀ (a b : List Int), VB (a ++ b) = VB a + (256 : Int) ^ a.length * VB b
  | [], b => by simp [VB]
  | x :: a, b => by
    have ih := VB_append a b
    simp only [List.cons_append, VB, ih, List.length_cons]
    rw [Int.pow_succ]
    grind
/-- what carried makes -/
def crd (d : List Int) : List Int := cd 0 d ++ dgs (cc 0 d).toNat
theorem crd_facts {d : List Int} (h : ∀ x ∈ d, 0 ≤ x ∧ x < 1099511627776) : VB (crd d) = VB d ∧ (∀ x ∈ crd d, 0 ≤ x ∧ x < 256) ∧ (crd d).length ≤ d.length + 5 ∧ 0 ≤ cc 0 d ∧ cc 0 d < 1099511627776 := by
  have hb := cc_bd d 0 1099511627775 (by decide) (by decide) (fun x hx => by have := h x hx; omega)
  have hv := cd_VB d 0
  have hd := dgs_VB (cc 0 d).toNat
  refine ⟨?_, ?_, ?_, hb.1, by omega⟩
  · unfold crd
    rw [VB_append, cd_len, hd, Int.toNat_of_nonneg hb.1]
    omega
  · intro x hx
    rcases List.mem_append.1 hx with hx | hx
    · exact cd_bd d 0 x hx
    · exact dgs_bd _ x hx
  · unfold crd
    rw [List.length_append, cd_len]
    have := dgs_len 5 (cc 0 d).toNat (by omega)
    omega
theorem VB_bd : ∀ (l : List Int), (∀ x ∈ l, 0 ≤ x ∧ x < 256) → 0 ≤ VB l ∧ VB l < (256 : Int) ^ l.length
  | [], _ => by simp [VB]
  | x :: l, h => by
    have ih := VB_bd l (fun y hy => h y (by simp [hy]))
    have hx := h x (by simp)
    rw [VB, List.length_cons, Int.pow_succ]
    generalize (256 : Int) ^ l.length = R at *
    omega
theorem VB_nonneg : ∀ (l : List Int), (∀ x ∈ l, 0 ≤ x) → 0 ≤ VB l
  | [], _ => by simp [VB]
  | x :: l, h => by
    have ih := VB_nonneg l (fun y hy => h y (by simp [hy]))
    have hx := h x (by simp)
    rw [VB]
    omega
theorem VB_set : ∀ (l : List Int) (k : Nat) (x : Int), k < l.length → VB (l.set k x) = VB l + (256 : Int) ^ k * (x - l.getD k 0)
  | [], _, _, h => by simp at h
  | y :: l, 0, x, _ => by simp [VB]; omega
  | y :: l, k + 1, x, h => by
    have ih := VB_set l k x (by simpa using h)
    simp only [List.set_cons_succ, VB, ih, List.getD_cons_succ]
    rw [Int.pow_succ]
    grind
/-- the digits of a number, one by one -/
theorem VB_digit : ∀ (i : Nat) (l : List Int), (∀ x ∈ l, 0 ≤ x ∧ x < 256) → l.getD i 0 = VB l / (256 : Int) ^ i % 256
  | 0, [], _ => by simp [VB]
  | 0, x :: l, h => by
    have := h x (by simp)
    simp [VB]
    omega
  | i + 1, [], _ => by simp [VB]
  | i + 1, x :: l, h => by
    have ih := VB_digit i l (fun y hy => h y (by simp [hy]))
    have hx := h x (by simp)
    rw [List.getD_cons_succ, ih, VB, Int.pow_succ, Int.mul_comm ((256 : Int) ^ i) 256, ← Int.ediv_ediv_of_nonneg (by decide)]
    have : (x + 256 * VB l) / 256 = VB l := by omega
    rw [this]
theorem bts_getD (n i : Nat) (h : i < 17) : (bts n).getD i 0 = ((n / 256 ^ i % 256 : Nat) : Int) := by
  rw [List.getD_eq_getElem?_getD, List.getElem?_eq_getElem (by simpa using h), Option.getD_some, bts_at _ _ h, Nat.shiftRight_eq_div_pow, show (2 : Nat) ^ (8 * i) = 256 ^ i by rw [Nat.pow_mul]]
theorem VB_bts {l : List Int} (h : ∀ x ∈ l, 0 ≤ x ∧ x < 256) (i : Nat) (hi : i < 17) : l.getD i 0 = (bts (VB l).toNat).getD i 0 := by
  have h0 := (VB_bd l h).1
  obtain ⟨n, hn⟩ := Int.eq_ofNat_of_zero_le h0
  rw [VB_digit i l h, bts_getD _ _ hi, hn, Int.toNat_natCast, Int.natCast_emod, Int.natCast_ediv, Int.natCast_pow]
  rfl
theorem bts_VB {n : Nat} (hn : n < 2 ^ 136) : VB (bts n) = (n : Int) := by
  have hb := bts_bd n
  have hv := VB_bd (bts n) hb
  rw [bts_len] at hv
  have e := bts_nb (bts n) (bts_len n) hb
  have : bts (VB (bts n)).toNat = bts n := by
    apply List.ext_getElem
    · simp
    · intro i h1 h2
      have := VB_bts hb i (by simpa using h2)
      rw [List.getD_eq_getElem?_getD, List.getElem?_eq_getElem h2, List.getD_eq_getElem?_getD, List.getElem?_eq_getElem h1] at this
      exact this.symm
  have h3 := congrArg nb this
  have hlt : (VB (bts n)).toNat < 2 ^ 136 := by
    have : ((256 : Int) ^ 17) = 2 ^ 136 := by decide
    rw [this] at hv
    omega
  rw [nb_bts _ hlt, nb_bts _ hn] at h3
  omega
theorem VB_nb {b : List Int} (hl : b.length = 17) (hb : ∀ x ∈ b, 0 ≤ x ∧ x < 256) : VB b = (nb b : Int) := by
  have := bts_VB (nb_lt b hb)
  rw [bts_nb b hl hb] at this
  exact this
/-- what stands above 2^130 -/
def hs : List Int → List Int
  | [] => []
  | x :: r => (x / 4 + r.getD 0 0 % 4 * 64) :: hs r
@[simp] theorem hs_len : ∀ l : List Int, (hs l).length = l.length
  | [] => rfl
  | _ :: l => by simp [hs, hs_len l]
theorem VB_mod4 : ∀ l : List Int, VB l % 4 = l.getD 0 0 % 4
  | [] => rfl
  | x :: l => by simp [VB]; omega
theorem hs_VB : ∀ (l : List Int), VB (hs l) = VB l / 4
  | [] => rfl
  | x :: l => by
    have ih := hs_VB l
    have h4 := VB_mod4 l
    rw [hs, VB, VB, ih]
    omega
theorem hs_get (l : List Int) (k : Nat) (h : k < l.length) : (hs l).getD k 0 = l.getD k 0 / 4 + l.getD (k + 1) 0 % 4 * 64 := by
  induction l generalizing k with
  | nil => simp at h
  | cons x l ih =>
    cases k with
    | zero => rfl
    | succ k =>
      have := ih k (by simpa using h)
      simpa [hs] using this
theorem VB_take_succ (l : List Int) (k : Nat) (h : k < l.length) : VB (l.take (k + 1)) = VB (l.take k) + (256 : Int) ^ k * l.getD k 0 := by
  rw [List.take_succ_eq_append_getElem h, VB_append, List.length_take, Nat.min_eq_left (by omega), List.getD_eq_getElem?_getD, List.getElem?_eq_getElem h]
  simp [VB]
theorem VB_split (l : List Int) (k : Nat) (h : k ≤ l.length) : VB l = VB (l.take k) + (256 : Int) ^ k * VB (l.drop k) := by
  have := VB_append (l.take k) (l.drop k)
  rw [List.take_append_drop, List.length_take, Nat.min_eq_left h] at this
  exact this
theorem VB_zeros (a : List Int) (n : Nat) : VB (a ++ List.replicate n 0) = VB a := by
  have : ∀ n, VB (List.replicate n 0) = 0 := by
    intro n
    induction n with
    | zero => rfl
    | succ n ih => rw [List.replicate_succ, VB, ih]; rfl
  rw [VB_append, this]
  simp
end Go.Prm
namespace Go.Prm
open Go
theorem mod_mul' (a b c : Nat) : a % (b * c) = a % b + b * (a / b % c) := Nat.mod_mul
/-- the first digits -/
def dg1 (d : List Int) (n : Nat) : List Int := (List.range n).map fun i => d.getD i 0
@[simp] theorem dg1_len (d : List Int) (n : Nat) : (dg1 d n).length = n := by simp [dg1]
theorem dg1_at (d : List Int) (n i : Nat) (h : i < n) : (dg1 d n)[i]'(by simpa using h) = d.getD i 0 := by simp [dg1]
theorem dg1_succ (d : List Int) (n : Nat) : dg1 d (n + 1) = dg1 d n ++ [d.getD n 0] := by simp [dg1, List.range_succ]
theorem dg1_VB {d : List Int} (h : ∀ x ∈ d, 0 ≤ x ∧ x < 256) : ∀ n, VB (dg1 d n) = (((VB d).toNat % 256 ^ n : Nat) : Int)
  | 0 => by simp [dg1, VB, Nat.mod_one]
  | n + 1 => by
    have ih := dg1_VB h n
    have h0 := (VB_bd d h).1
    have hd := VB_digit n d h
    obtain ⟨N, hN⟩ := Int.eq_ofNat_of_zero_le h0
    rw [hN] at hd
    rw [dg1_succ, VB_append, ih, dg1_len, hd, hN, Int.toNat_natCast, Nat.pow_succ, mod_mul']
    simp [VB]
theorem drop_VB {d : List Int} (h : ∀ x ∈ d, 0 ≤ x ∧ x < 256) (n : Nat) : VB (d.drop n) = (((VB d).toNat / 256 ^ n : Nat) : Int) := by
  have h0 := VB_bd d h
  obtain ⟨N, hN⟩ := Int.eq_ofNat_of_zero_le h0.1
  rw [hN] at h0
  rw [hN, Int.toNat_natCast]
  by_cases hl : n ≤ d.length
  · have hs := VB_split d n hl
    have ht := VB_bd (d.take n) (fun x hx => h x (List.mem_of_mem_take hx))
    have hd := VB_bd (d.drop n) (fun x hx => h x (List.mem_of_mem_drop hx))
    rw [List.length_take, Nat.min_eq_left hl] at ht
    obtain ⟨A, hA⟩ := Int.eq_ofNat_of_zero_le ht.1
    obtain ⟨C, hC⟩ := Int.eq_ofNat_of_zero_le hd.1
    rw [hA] at ht
    rw [hN, hA, hC] at hs
    rw [hC]
    have e : N = A + 256 ^ n * C := by
      have : (N : Int) = ((A + 256 ^ n * C : Nat) : Int) := by rw [hs]; simp
      omega
    have hA' : A < 256 ^ n := by
      have : (A : Int) < ((256 ^ n : Nat) : Int) := by rw [Int.natCast_pow]; exact ht.2
      omega
    rw [e, Nat.add_mul_div_left _ _ (Nat.pos_of_ne_zero (by simp)), Nat.div_eq_of_lt hA', Nat.zero_add]
  · have e : d.drop n = [] := List.drop_eq_nil_of_le (by omega)
    have hlt : N < 256 ^ n := by
      have h1 : (N : Int) < ((256 ^ d.length : Nat) : Int) := by rw [Int.natCast_pow]; exact h0.2
      have h2 : 256 ^ d.length ≤ 256 ^ n := Nat.pow_le_pow_right (by decide) (by omega)
      omega
    rw [e, Nat.div_eq_of_lt hlt]
    rfl
/-- what fold begins with, and what it adds -/
theorem fold_VB {d : List Int} (h : ∀ x ∈ d, 0 ≤ x ∧ x < 256) : VB (dg1 d 16 ++ [d.getD 16 0 % 4]) = VB d % 1361129467683753853853498429727072845824 ∧ VB (hs (d.drop 16)) = VB d / 1361129467683753853853498429727072845824 := by
  have h0 := VB_bd d h
  obtain ⟨N, hN⟩ := Int.eq_ofNat_of_zero_le h0.1
  have hd := VB_digit 16 d h
  have h16 := dg1_VB h 16
  have hdr := drop_VB h 16
  rw [hs_VB, hdr, VB_append, h16, dg1_len, hd, hN, Int.toNat_natCast]
  rw [show (256 : Int) ^ 16 = 340282366920938463463374607431768211456 by decide, show (256 : Nat) ^ 16 = 340282366920938463463374607431768211456 by decide]
  simp only [VB]
  constructor
  · omega
  · omega
theorem hs_bd {l : List Int} (h : ∀ x ∈ l, 0 ≤ x ∧ x < 256) : ∀ x ∈ hs l, 0 ≤ x ∧ x < 256 := by
  induction l with
  | nil => simp [hs]
  | cons x l ih =>
    intro y hy
    rw [hs] at hy
    rcases List.mem_cons.1 hy with rfl | hy
    · have := h x (by simp)
      have h1 : 0 ≤ l.getD 0 0 ∧ l.getD 0 0 < 256 := byte_at (fun z hz => h z (by simp [hz])) 0
      omega
    · exact ih (fun z hz => h z (by simp [hz])) y hy
theorem getD_drop (l : List Int) (n k : Nat) : (l.drop n).getD k 0 = l.getD (n + k) 0 := by
  rw [List.getD_eq_getElem?_getD, List.getElem?_drop, List.getD_eq_getElem?_getD]
/-- the list that fold works on, behind k rounds -/
structure Fdk (L0 t L : List Int) (k : Nat) : Prop where
  len : L.length = max 17 k
  bd : ∀ x ∈ L, 0 ≤ x ∧ x < 2000
  hi : ∀ j, k ≤ j → L.getD j 0 < 256
  val : VB L = VB L0 + 5 * VB ((hs t).take k)
theorem Fdk.pad {L0 t L : List Int} {k : Nat} (h : Fdk L0 t L k) (ht : ∀ x ∈ t, 0 ≤ x ∧ x < 256) (hk : k < t.length) (m : Nat) (hl : (L ++ List.replicate m 0).length = max 17 (k + 1)) :
    Fdk L0 t ((L ++ List.replicate m 0).set k ((L ++ List.replicate m 0).getD k 0 + 5 * (hs t).getD k 0)) (k + 1) := by
  have hp : ∀ j, (L ++ List.replicate m (0 : Int)).getD j 0 = L.getD j 0 := fun j => by
    by_cases hj : j < L.length
    · rw [List.getD_eq_getElem?_getD, List.getElem?_append_left hj, List.getD_eq_getElem?_getD]
    · rw [List.getD_eq_getElem?_getD, List.getElem?_append_right (by omega), List.getElem?_replicate, List.getD_eq_getElem?_getD, List.getElem?_eq_none (by omega)]
      split <;> rfl
  have hh := byte_at (hs_bd ht) k
  have hk' : k < (L ++ List.replicate m (0 : Int)).length := by omega
  have hbd : ∀ x ∈ L ++ List.replicate m (0 : Int), 0 ≤ x ∧ x < 2000 := fun x hx => by
    rcases List.mem_append.1 hx with hx | hx
    · exact h.bd x hx
    · rw [(List.mem_replicate.1 hx).2]; omega
  have hlow : 0 ≤ L.getD k 0 := by
    by_cases hj : k < L.length
    · rw [List.getD_eq_getElem?_getD, List.getElem?_eq_getElem hj]; exact (h.bd _ (List.getElem_mem hj)).1
    · rw [List.getD_eq_getElem?_getD, List.getElem?_eq_none (by omega)]; exact Int.le_refl 0
  have hhi := h.hi k (Nat.le_refl _)
  refine ⟨by rw [List.length_set]; exact hl, fun x hx => ?_, fun j hj => ?_, ?_⟩
  · rcases List.mem_or_eq_of_mem_set hx with hx | rfl
    · exact hbd x hx
    · rw [hp]; omega
  · rw [List.getD_eq_getElem?_getD, List.getElem?_set_ne (by omega), ← List.getD_eq_getElem?_getD, hp]
    exact h.hi j (by omega)
  · rw [VB_set _ _ _ hk', VB_zeros, h.val, VB_take_succ _ _ (by rw [hs_len]; exact hk)]
    grind
theorem any_step {t : List Int} (ht : ∀ x ∈ t, 0 ≤ x ∧ x < 256) (k : Nat) (hk : k < t.length) : decide (0 < VB ((hs t).take (k + 1))) = (decide (0 < VB ((hs t).take k)) || decide (0 < (hs t).getD k 0)) := by
  have hh := byte_at (hs_bd ht) k
  have h0 := (VB_bd ((hs t).take k) (fun x hx => hs_bd ht x (List.mem_of_mem_take hx))).1
  rw [VB_take_succ _ _ (by rw [hs_len]; exact hk)]
  have hp : 0 < (256 : Int) ^ k := Int.pow_pos (by decide)
  by_cases h1 : 0 < (hs t).getD k 0
  · have := Int.mul_pos hp h1
    have h2 : 0 < VB ((hs t).take k) + 256 ^ k * (hs t).getD k 0 := by omega
    simp only [h1, h2, decide_true, Bool.or_true]
  · have e : (hs t).getD k 0 = 0 := by omega
    rw [e]
    simp
end Go.Prm
namespace Go.Proofs.Ytgfamcadgahiiaa
set_option linter.unusedSimpArgs false
open Go.ChangeShapes Go.WideShapes Go.ChangeAt Go.RowKit Go.Pin Go.Prm
/-- numbers as cells -/
abbrev ints (l : List Int) : List Value := l.map (.int .i64 ·)
/-- a row of its own, of numbers -/
abbrev Own (B : Nat) (w : World) (v : Value) (l : List Int) : Prop := w.ownsRow B 3 1 v l.length (ints l)
theorem info_int : (Try.prog.info? 3).map (fun i => (i.zero, i.size, i.bytes)) = some (some (.int .i64 0), 1, 8) := by kernel_rfl
/-- a slice that reads l -/
def Rd (w : World) (v : Value) (l : List Int) : Prop := ∃ a c, v = .slice a l.length c ∧ l.length ≤ c ∧ (l = [] ∨ ∃ b, a = some ⟨b, 0, none⟩ ∧ b < w.heap.size ∧ ∀ j, j < l.length → w.cell? ⟨b, j, none⟩ = some (.int .i64 (l.getD j 0)))
theorem Own.rd {B : Nat} {w : World} {v : Value} {l : List Int} (h : Own B w v l) : Rd w v l := by
  rcases h.2 with ⟨rfl, h0⟩ | ⟨g, cap, cur, rfl, hb, hg, hnc, hcm, hcs, ht⟩
  · have : l = [] := List.length_eq_zero_iff.1 h0
    subst this
    exact ⟨none, 0, rfl, Nat.le_refl _, .inl rfl⟩
  · refine ⟨_, cap, rfl, hnc, .inr ⟨g, rfl, heap_lt hg, fun j hj => ?_⟩⟩
    have := World.ownsRow.cells h (g := g) rfl j (.int .i64 (l.getD j 0)) (by rw [List.getElem?_map, List.getElem?_eq_getElem hj, List.getD_eq_getElem?_getD, List.getElem?_eq_getElem hj]; rfl)
    rwa [add_mid, Nat.zero_add] at this
theorem Rd.below {w w' : World} {v : Value} {l : List Int} (h : Rd w v l) (hb : Below w.heap.size w w') : Rd w' v l := by
  obtain ⟨a, c, rfl, hc, h⟩ := h
  refine ⟨a, c, rfl, hc, ?_⟩
  rcases h with h | ⟨b, rfl, hlt, h⟩
  · exact .inl h
  · exact .inr ⟨b, rfl, Nat.lt_of_lt_of_le hlt hb.size, fun j hj => (World.cell?_of_block (hb.block b hlt)).trans (h j hj)⟩
theorem Own.below {B : Nat} {w w' : World} {v : Value} {l : List Int} (h : Own B w v l) (hb : Below w.heap.size w w') : Own B w' v l :=
  World.ownsRow.kept (row := none) h ⟨hb.os, hb.tape, hb.output, hb.size, fun k hk _ => hb.block k hk⟩ (by
    cases hv : v.ownBlock with
    | none => exact .inl rfl
    | some k => exact .inr (by simp))
theorem Below.grown {n : Nat} {w w1 w2 : World} {row : Option Nat} (h : Below n w w1) (hg : w1.grownBy w2 row) (hr : ∀ k, row = some k → n ≤ k) (hn : n ≤ w1.heap.size) : Below n w w2 :=
  ⟨hg.os.trans h.os, hg.tape.trans h.tape, hg.output.trans h.output, Nat.le_trans h.size hg.size, fun k hk => (hg.block k (Nat.lt_of_lt_of_le hk hn) (fun e => by have := hr k e.symm; omega)).trans (h.block k hk)⟩
set_option maxRecDepth 100000 in
set_option maxHeartbeats 2000000 in
theorem digit_any (v : Value) (l : List Int) (i : Nat) (w : World) (h : Rd w v l) (hl : l.length < 1000000) :
    Calls Try.prog 66 #[v, .int .i64 (i : Int)] w fun e w' => e = .returned (.int .i64 (l.getD i 0)) ∧ w' = w := by
  obtain ⟨a, c, rfl, hc, h⟩ := h
  by_cases hlt : i < l.length
  · have hne : l ≠ [] := fun e => by subst e; simp at hlt
    obtain ⟨b, rfl, hb, h⟩ := h.resolve_left hne
    have hcell := h i hlt
    have hlt' : (i : Int) < (l.length : Int) := by omega
    clear h hne
    generalize l.getD i 0 = x at *
    go_enter Try.func66, Try.ntmps66
    go_wp2
    go_ret
    exact ⟨rfl, rfl⟩
  · have e : l.getD i 0 = 0 := by rw [List.getD_eq_getElem?_getD, List.getElem?_eq_none (by omega)]; rfl
    have hlt' : ¬ (i : Int) < (l.length : Int) := by omega
    have hd : decide ((i : Int) < (l.length : Int)) = false := decide_eq_false hlt'
    have HE : Hid (l.getD i 0 = 0) := e
    clear h e
    go_enter Try.func66, Try.ntmps66
    go_wp2
    go_ret
    exact ⟨by first | rfl | (rw [HE.out]; rfl), rfl⟩
end Go.Proofs.Ytgfamcadgahiiaa
