import Derived.Test.YtfkbgodfcnmepabDoorDgOf
import Derived.Test.YtfkbgodfcnmepabDoorTrD
import Derived.LaidEql
namespace Go.Proofs.YtfkbgodfcnmepabDoor
set_option linter.unusedSimpArgs false
set_option linter.unusedVariables false
open Go.ChangeShapes Go.WideShapes Go.ChangeAt Go.RowKit Go.Pin Go.Str Go.Dig
theorem info_some {P : Program} {t : TypeId} {α : Type} {f : TypeInfo → α} {x : α} (h : (P.info? t).map f = some x) : ∃ i, P.info? t = some i ∧ f i = x := Option.map_eq_some_iff.1 h
theorem eq_err (ea : Addr) (W : World) : (binOp .eql 25 (.iface 89 (.pointer (some ea))) (.iface 89 (.pointer (some ea)))).run Tryd.prog W = .ok (.bool true) W := by
  obtain ⟨i, hi, hc⟩ := info_some (P := Tryd.prog) (t := 89) (f := (·.comparable)) (x := true) (by kernel_rfl)
  obtain ⟨j, hj, _⟩ := info_some (P := Tryd.prog) (t := 106) (f := fun _ => ()) (x := ()) (by kernel_rfl)
  exact run_eql_iface_ptr_same W ea Tryd.underlying25 Tryd.underlying89 hi hc hj
def kel : List Int := [107, 101, 101, 108]
def ke1 : List Int := [107, 101]
def ke2 : List Int := [101, 108]
set_option maxRecDepth 100000 in
theorem kn32 : (dig 32 [] kel).getD 0 0 = 29 ∧ (dig 32 [] kel).getD 31 0 = 40 := by decide +kernel
set_option maxRecDepth 100000 in
theorem kn16 : (dig 16 [] kel).getD 0 0 = 220 ∧ (dig 16 [] kel).getD 15 0 = 160 := by decide +kernel
theorem knl : (olg [2, 2]).length = 21 := by decide +kernel
theorem ke1_b : Byt ke1 := fun x hx => by simp [ke1] at hx; rcases hx with rfl | rfl <;> decide
theorem ke2_b : Byt ke2 := fun x hx => by simp [ke2] at hx; rcases hx with rfl | rfl <;> decide
theorem kel_b : Byt kel := fun x hx => by simp [kel] at hx; rcases hx with rfl | rfl | rfl <;> decide
theorem v_total {B : Nat} {w : World} {R : Nat} {l : List (Int × Int)} {bx : List (Nat × Obj)} {wr : World} (h : Ev B w (.pointer (some ⟨R, 0, none⟩)) l bx wr) : Calls Tryd.prog 15 #[.pointer (some ⟨R, 0, none⟩)] wr fun e w' => e = .returned (.int .i64 l.length) ∧ w' = wr := by
  rcases h.rc with e | ⟨R', vs, e, h2, h3⟩
  · cases e
  · injection e with e; injection e with e; injection e with e1; subst e1
    exact total_any _ vs l wr h2.opt
set_option maxRecDepth 100000 in
set_option maxHeartbeats 8000000 in
theorem known_any (W : World) (hB : Beg W) (hE : ∃ a, W.cell? ⟨0, 0, none⟩ = some (.iface 89 (.pointer (some a)))) : Calls Tryd.prog 7 #[] W fun e w' => e = .returned (.bool true) ∧ Below W.heap.size W w' := by
  obtain ⟨ea, hE⟩ := hE
  obtain ⟨q, hq⟩ : ∃ q, W.heap.size = q := ⟨_, rfl⟩
  have h1 := ev_new W
  have CN : Hid (Calls Tryd.prog 12 #[] W fun e w' => e = .returned (.pointer (some ⟨q, 0, none⟩)) ∧ w' = W.alloc (.cells #[.slice none 0 0, .int .i64 0] 65)) := by
    have := new_any W
    rw [hq] at this
    exact this
  rw [hq] at h1
  obtain ⟨W1, hW1⟩ : ∃ V, W.alloc (.cells #[.slice none 0 0, .int .i64 0] 65) = V := ⟨_, rfl⟩
  rw [hW1] at h1 CN
  have H1 : Hid (Ev q W (.pointer (some ⟨q, 0, none⟩)) [] [] W1) := h1
  have HQ : Hid (W.heap.size = q ∧ Beg W ∧ 2 ≤ q ∧ W.cell? ⟨0, 0, none⟩ = some (.iface 89 (.pointer (some ea)))) := ⟨hq, hB, by rw [← hq]; exact hB.2, hE⟩
  rw [hq]
  clear h1 hW1 hq hB hE
  go_enter Tryd.func7, Tryd.ntmps7
  go_upto_region 2 with (first | (go_at_call 12; refine Calls.mono CN.out ?_; rintro e V1 ⟨rfl, hV⟩; obtain rfl := hV))
  obtain ⟨g1, g2, g3, W3, W4, W5, hg1, hg2, hg3, hcv1, hcv2, hW5, co⟩ : ∃ g1 g2 g3 W3 W4 W5, V1.heap.size = g1 ∧ W3.heap.size = g2 ∧ W4.heap.size = g3
      ∧ (convert 22 22 (.slice (some ⟨g1, 0, none⟩) 2 2)).run Tryd.prog (V1.alloc (.cells #[.int .u8 107, .int .u8 101] 5)) = .ok (.slice (some ⟨g1, 0, none⟩) 2 2) W3
      ∧ (convert 22 22 (.slice (some ⟨g2, 0, none⟩) 2 2)).run Tryd.prog (W3.alloc (.cells #[.int .u8 101, .int .u8 108] 5)) = .ok (.slice (some ⟨g2, 0, none⟩) 2 2) W4
      ∧ W4.alloc (.cells #[.slice (some ⟨g1, 0, none⟩) 2 2, .slice (some ⟨g2, 0, none⟩) 2 2] 22) = W5
      ∧ Calls Tryd.prog 13 #[.pointer (some ⟨q, 0, none⟩), .slice (some ⟨g3, 0, none⟩) 2 2] W5 fun e w' => e = .returned (.agg (VI .u8 (dig 32 [] kel))) ∧ Ev q W (.pointer (some ⟨q, 0, none⟩)) (olg [2, 2]) [] w' := by
    have h2 := H1.out
    have h3 := h2.new (.cells (VI .u8 ke1) 5 (2, 3))
    have h4 := h3.new (.cells (VI .u8 ke2) 5 (2, 3))
    have h5 := h4.new (.cells #[.slice (some ⟨V1.heap.size, 0, none⟩) 2 2, .slice (some ⟨(V1.alloc (.cells (VI .u8 ke1) 5 (2, 3))).heap.size, 0, none⟩) 2 2] 22)
    refine ⟨_, _, _, V1.alloc (.cells (VI .u8 ke1) 5 (2, 3)), (V1.alloc (.cells (VI .u8 ke1) 5 (2, 3))).alloc (.cells (VI .u8 ke2) 5 (2, 3)), _, rfl, rfl, rfl, ?_, ?_, rfl, ?_⟩
    · exact Lib.run_convert_bytes_const (P := Tryd.prog) V1 22 5 #[.int .u8 107, .int .u8 101] 2 2 Tryd.underlying22 Tryd.underlying5
    · exact Lib.run_convert_bytes_const (P := Tryd.prog) _ 22 5 #[.int .u8 101, .int .u8 108] 2 2 Tryd.underlying22 Tryd.underlying5
    · refine (dof_any (Ds := [ke1, ke2]) h5 ⟨⟨rfl, by decide⟩, fun j hj => ?_⟩ (fun D hD => by simp at hD; rcases hD with rfl | rfl; exact ke1_b; exact ke2_b) (fun _ => by decide) (by decide) HQ.out.2.1 HQ.out.2.2.1).mono ?_
      · have hj2 : j < 2 := hj
        have hc : j = 0 ∨ j = 1 := by omega
        rcases hc with rfl | rfl
        · exact ⟨_, 0, _, rfl, fun Z _ hq => by rw [cell_of_row Z _ _ _ _ _ (hq _ mem0)]; rfl, src_box (L := ke1) mem2 0 2 2 (by decide) (by decide)⟩
        · exact ⟨_, 0, _, rfl, fun Z _ hq => by rw [cell_of_row Z _ _ _ _ _ (hq _ mem0)]; rfl, src_box (L := ke2) mem1 0 2 2 (by decide) (by decide)⟩
      · rintro e w' ⟨rfl, h⟩
        exact ⟨rfl, h.sub (by simp)⟩
  have CO : Hid _ := co
  clear co CN
  go_upto_region 3 with (first | (go_at_call 13; refine Calls.mono CO.out ?_; rintro e W6 ⟨rfl, h6⟩; have H6 : Hid _ := h6; clear h6) | (with_reducible refine at_list ?_; first | (refine hold_store 40 (.tmp 2) (.tmp 15) rfl ?_)))
  refine store_row_new rfl 40 (.tmp 2) (.tmp 15) rfl W6.heap.size (VI .u8 (dig 32 [] kel)) rfl rfl rfl 40 (VI .u8 (List.replicate 32 0)) (by rw [VI_size, dig_len]; exact infoK) (by rw [VI_size, VI_size, dig_len]; rfl) (VI_one _ _) ?_
  have h7 := H6.out.new (.cells (VI .u8 (dig 32 [] kel)) 40)
  obtain ⟨p2, hp2⟩ : ∃ p, W6.heap.size = p := ⟨_, rfl⟩
  obtain ⟨W7, hW7⟩ : ∃ V, W6.alloc (.cells (VI .u8 (dig 32 [] kel)) 40) = V := ⟨_, rfl⟩
  rw [hW7, hp2] at h7 ⊢
  obtain ⟨s7, hs7⟩ : ∃ s, W7.heap.size = s := ⟨_, rfl⟩
  have hp7 : p2 < s7 := by rw [← hs7]; exact h7.lt mem0
  have e0 := ev_nil' W7
  rw [hs7] at e0
  have hB7 := HQ.out.2.1.below h7.old HQ.out.2.2.1
  have h27 : 2 ≤ s7 := by rw [← hs7]; exact hB7.2
  have hE7 : W7.cell? ⟨0, 0, none⟩ = some (.iface 89 (.pointer (some ea))) := (World.cell?_of_block (a := ⟨0, 0, none⟩) (h7.old.block 0 (by have := HQ.out.2.2.1; omega))).trans HQ.out.2.2.2
  have H7 : Hid (Ev q W (.pointer (some ⟨q, 0, none⟩)) (olg [2, 2]) [(p2, .cells (VI .u8 (dig 32 [] kel)) 40)] W7 ∧ p2 < s7 ∧ W7.heap.size = s7 ∧ Beg W7 ∧ 2 ≤ s7 ∧ W7.cell? ⟨0, 0, none⟩ = some (.iface 89 (.pointer (some ea)))) := ⟨h7, hp7, hs7, hB7, h27, hE7⟩
  have CN2 : Hid (Calls Tryd.prog 5 #[.pointer none, .int .i64 16, .slice none 0 0] W7 fun e w' => ∃ g, e = .returned (.tuple #[.pointer (some ⟨g, 0, none⟩), .nilIface]) ∧ NewOk s7 W7 (.pointer none) [] [] 16 [] g w') := dnew_any e0 (fun hr => absurd rfl hr) 16 ⟨by decide, by decide⟩ hB7 h27 (.slice none 0 0) [] ⟨none, 0, rfl, Nat.le_refl _, .inl rfl⟩ (by decide) (by intro x hx; cases hx)
  clear h7 hp7 hs7 e0 hW7 hp2 H6 CO hcv1 hcv2 hg1 hg2 hg3 hW5 hB7 h27 hE7
  go_upto_region 6 with (first | (go_at_call 5; refine Calls.mono CN2.out ?_; rintro e W8 ⟨g, rfl, h8⟩; have H8 : Hid _ := h8; clear h8 CN2))
  obtain ⟨o, hng, hho, he8⟩ := H8.out
  obtain ⟨blk0, hb0, rfl⟩ := hho.blk
  obtain ⟨g4, hg4⟩ : ∃ p, W8.heap.size = p := ⟨_, rfl⟩
  have h9 := he8.new (.cells (VI .u8 kel) 5 (4, 5))
  rw [hg4] at h9
  obtain ⟨W9, hW9⟩ : ∃ V, W8.alloc (.cells (VI .u8 kel) 5 (4, 5)) = V := ⟨_, rfl⟩
  have hcv : (convert 22 22 (.slice (some ⟨g4, 0, none⟩) 4 4)).run Tryd.prog (W8.alloc (.cells #[.int .u8 107, .int .u8 101, .int .u8 101, .int .u8 108] 5)) = .ok (.slice (some ⟨g4, 0, none⟩) 4 4) W9 := by
    rw [← hW9, ← hg4]
    exact Lib.run_convert_bytes_const (P := Tryd.prog) W8 22 5 #[.int .u8 107, .int .u8 101, .int .u8 101, .int .u8 108] 4 4 Tryd.underlying22 Tryd.underlying5
  rw [hW9] at h9
  have hgne : g ≠ g4 := by have := he8.lt mem0; omega
  have CW : Hid (Calls Tryd.prog 8 #[.pointer (some ⟨g, 0, none⟩), .slice (some ⟨g4, 0, none⟩) 4 4] W9 fun e w' => e = .returned (.tuple #[]) ∧ WrOk s7 W7 (.pointer none) ([] ++ nlg []) (wl (hld []).length kel.length) [(g4, .cells (VI .u8 kel) 5 (4, 5))] g 16 (h0 16 0) ([] ++ kel) w') := dwrite_src (D := kel) hb0 h9.flip (h0_s8 (by decide) (by decide)) (fun hr => absurd rfl hr) (fun p hp => by simp only [List.mem_cons, List.not_mem_nil, or_false] at hp; subst hp; exact fun e => hgne e.symm) (src_box (L := kel) mem0 0 4 4 (by decide) (by decide)) kel_b (by decide) H7.out.2.2.2.1 H7.out.2.2.2.2.1
  clear hng hho he8 hb0 H8 h9 hW9
  go_upto_region 7 with (first | (go_at_call 8; refine Calls.mono CW.out ?_; rintro e W10 ⟨rfl, h10⟩; have H10 : Hid _ := h10; clear h10 CW))
  clear hcv hg4
  obtain ⟨blk1, hb1, he10⟩ := H10.out
  have CS : Hid (Calls Tryd.prog 9 #[.pointer (some ⟨g, 0, none⟩)] W10 fun e w' => ∃ g5, e = .returned (.slice (some ⟨g5, 0, none⟩) 16 16) ∧ SuOk s7 W7 (.pointer none) _ _ (dig 16 [] kel) g5 w') := dsum_any hb1 he10 (h0_s8 (by decide) (by decide)) (by decide) (fun hr => absurd rfl hr) (fun p hp => by simp only [List.mem_cons, List.not_mem_nil, or_false] at hp; subst hp; exact fun e => hgne e.symm) (by decide) H7.out.2.2.2.1 H7.out.2.2.2.2.1
  clear hb1 he10 H10
  go_upto_region 8 with (first | (go_at_call 9; refine Calls.mono CS.out ?_; rintro e W11 ⟨g5, rfl, h11⟩; have H11 : Hid _ := h11; clear h11 CS))
  have CB : Hid (Calls Tryd.prog 5 #[.pointer none, .int .i64 0, .slice none 0 0] W11 fun e w' => e = .returned (.tuple #[.pointer none, .iface 89 (.pointer (some ea))]) ∧ Ev s7 W7 (.pointer none) _ _ w') := dnew_bad H11.out.2 (fun hr => absurd rfl hr) 0 _ H7.out.2.2.2.2.2 (by have := H7.out.2.2.2.2.1; omega) none 0 0 (.inl (by decide))
  go_upto_region 9 with (first | (go_at_call 5; refine Calls.mono CB.out ?_; rintro e W12 ⟨rfl, h12⟩; have H12 : Hid _ := h12; clear h12 CB))
  have hr2 : W12.heap[p2]? = some (.cells (VI .u8 (dig 32 [] kel)) 40) := (H12.out.old.block p2 H7.out.2.1).trans (H7.out.1.row mem0)
  have hr5 := H12.out.row mem0
  have c20 : W12.cell? ⟨p2, 0, none⟩ = some (.int .u8 29) := by rw [cell_of_row W12 _ _ _ _ _ hr2, VI_at _ _ _ (by rw [dig_len]; decide), kn32.1]
  have c21 : W12.cell? ⟨p2, 31, none⟩ = some (.int .u8 40) := by rw [cell_of_row W12 _ _ _ _ _ hr2, VI_at _ _ _ (by rw [dig_len]; decide), kn32.2]
  have c50 : W12.cell? ⟨g5, 0, none⟩ = some (.int .u8 220) := by rw [cell_of_row W12 _ _ _ _ _ hr5, VI_at _ _ _ (by rw [dig_len]; decide), kn16.1]
  have c51 : W12.cell? ⟨g5, 15, none⟩ = some (.int .u8 160) := by rw [cell_of_row W12 _ _ _ _ _ hr5, VI_at _ _ _ (by rw [dig_len]; decide), kn16.2]
  have ce : W12.cell? ⟨0, 0, none⟩ = some (.iface 89 (.pointer (some ea))) := (World.cell?_of_block (a := ⟨0, 0, none⟩) (H12.out.old.block 0 (by have := H7.out.2.2.2.2.1; omega))).trans H7.out.2.2.2.2.2
  have hbel : Below W7.heap.size W7 W12 := by rw [H7.out.2.2.1]; exact H12.out.old
  have h13 := H7.out.1.below hbel
  have CT : Hid _ := v_total h13
  have H13 : Hid (Below q W W12) := h13.old
  rw [knl] at CT
  have hee := eq_err ea W12
  clear hr2 hr5 hbel h13 H12 H11 H7 H1
  go_wp2_with (first | (go_at_call 15; refine Calls.mono CT.out ?_; rintro e W13 ⟨rfl, hV⟩; obtain rfl := hV))
  go_ret
  exact ⟨rfl, H13.out⟩
end Go.Proofs.YtfkbgodfcnmepabDoor
