import Derived.LaidEql
import Derived.Test.YtfkbgodfcnmepaaDoorTie
import Derived.Test.YtfkbgodfcnmepaaDoorCards
import Derived.LaidLaws
import Derived.LaidHandle
import Derived.Lay
import Derived.SevenTiedAt
import Derived.Lib.LaidTab
import Derived.Test.YtfkbgodfcnmepaaDoorDmak
import Derived.Test.YtfkbgodfcnmepaaDoorDmag
namespace Go.Proofs.YtfkbgodfcnmepaaDoor
set_option linter.unusedSimpArgs false
set_option linter.unusedVariables false
open Go.ChangeShapes Go.WideShapes Go.ChangeAt Go.RowKit Go.Pin Go.Str Go.Dig
theorem info_some {P : Program} {t : TypeId} {α : Type} {f : TypeInfo → α} {x : α} (h : (P.info? t).map f = some x) : ∃ i, P.info? t = some i ∧ f i = x := Option.map_eq_some_iff.1 h
theorem eq_err (ea : Addr) (W : World) : (binOp .eql 28 (.iface 120 (.pointer (some ea))) (.iface 120 (.pointer (some ea)))).run Tryd.prog W = .ok (.bool true) W := by
  obtain ⟨i, hi, hc⟩ := info_some (P := Tryd.prog) (t := 120) (f := (·.comparable)) (x := true) (by kernel_rfl)
  obtain ⟨j, hj, _⟩ := info_some (P := Tryd.prog) (t := 137) (f := fun _ => ()) (x := ()) (by kernel_rfl)
  exact run_eql_iface_ptr_same W ea Tryd.underlying28 Tryd.underlying120 hi hc hj
def kel : List Int := [107, 101, 101, 108]
def ke1 : List Int := [107, 101]
def ke2 : List Int := [101, 108]
set_option maxRecDepth 100000 in
theorem kn32 : (dig 32 [] kel).getD 0 0 = 29 ∧ (dig 32 [] kel).getD 31 0 = 40 := by decide +kernel
set_option maxRecDepth 100000 in
theorem kn16 : (dig 16 [] kel).getD 0 0 = 220 ∧ (dig 16 [] kel).getD 15 0 = 160 := by decide +kernel
theorem knl : (olg [2, 2]).length = 21 := by decide +kernel
theorem ke1_b : Byt ke1 := fun x hx => by simp [ke1] at hx; rcases hx with rfl | rfl <;> decide
theorem ke2_b : Byt ke2 := fun x hx => by simp [ke2] at hx; rcases hx with rfl | rfl <;> decide
theorem kel_b : Byt kel := fun x hx => by simp [kel] at hx; rcases hx with rfl | rfl | rfl <;> decide
theorem v_total {B : Nat} {w : World} {R : Nat} {l : List (Int × Int)} {bx : List (Nat × Obj)} {wr : World} (h : Ev B w (.pointer (some ⟨R, 0, none⟩)) l bx wr) : Calls Tryd.prog 34 #[.pointer (some ⟨R, 0, none⟩)] wr fun e w' => e = .returned (.int .i64 l.length) ∧ w' = wr := by
  rcases h.rc with e | ⟨R', vs, e, h2, h3⟩
  · cases e
  · injection e with e; injection e with e; injection e with e1; subst e1
    exact total_any _ vs l wr h2.opt
set_option maxRecDepth 100000 in
set_option maxHeartbeats 8000000 in
theorem known_any (W : World) (hB : Beg W) (hE : ∃ a, W.cell? ⟨0, 0, none⟩ = some (.iface 120 (.pointer (some a)))) : Calls Tryd.prog 18 #[] W fun e w' => e = .returned (.bool true) ∧ Below W.heap.size W w' := by
  obtain ⟨ea, hE⟩ := hE
  obtain ⟨q, hq⟩ : ∃ q, W.heap.size = q := ⟨_, rfl⟩
  have h1 := ev_new W
  have CN : Hid (Calls Tryd.prog 9 #[] W fun e w' => e = .returned (.pointer (some ⟨q, 0, none⟩)) ∧ w' = W.alloc (.cells #[.slice none 0 0, .int .i64 0] 76)) := by
    have := new_any W
    rw [hq] at this
    exact this
  rw [hq] at h1
  obtain ⟨W1, hW1⟩ : ∃ V, W.alloc (.cells #[.slice none 0 0, .int .i64 0] 76) = V := ⟨_, rfl⟩
  rw [hW1] at h1 CN
  have H1 : Hid (Ev q W (.pointer (some ⟨q, 0, none⟩)) [] [] W1) := h1
  have HQ : Hid (W.heap.size = q ∧ Beg W ∧ 2 ≤ q ∧ W.cell? ⟨0, 0, none⟩ = some (.iface 120 (.pointer (some ea)))) := ⟨hq, hB, by rw [← hq]; exact hB.2, hE⟩
  rw [hq]
  clear h1 hW1 hq hB hE
  go_enter Tryd.func18, Tryd.ntmps18
  go_upto_region 2 with (first | (go_at_call 9; refine Calls.mono CN.out ?_; rintro e V1 ⟨rfl, hV⟩; obtain rfl := hV))
  obtain ⟨g1, g2, g3, W3, W4, W5, hg1, hg2, hg3, hcv1, hcv2, hW5, co⟩ : ∃ g1 g2 g3 W3 W4 W5, V1.heap.size = g1 ∧ W3.heap.size = g2 ∧ W4.heap.size = g3
      ∧ (convert 22 22 (.slice (some ⟨g1, 0, none⟩) 2 2)).run Tryd.prog (V1.alloc (.cells #[.int .u8 107, .int .u8 101] 5)) = .ok (.slice (some ⟨g1, 0, none⟩) 2 2) W3
      ∧ (convert 22 22 (.slice (some ⟨g2, 0, none⟩) 2 2)).run Tryd.prog (W3.alloc (.cells #[.int .u8 101, .int .u8 108] 5)) = .ok (.slice (some ⟨g2, 0, none⟩) 2 2) W4
      ∧ W4.alloc (.cells #[.slice (some ⟨g1, 0, none⟩) 2 2, .slice (some ⟨g2, 0, none⟩) 2 2] 22) = W5
      ∧ Calls Tryd.prog 26 #[.pointer (some ⟨q, 0, none⟩), .slice (some ⟨g3, 0, none⟩) 2 2] W5 fun e w' => e = .returned (.agg (VI .u8 (dig 32 [] kel))) ∧ Ev q W (.pointer (some ⟨q, 0, none⟩)) (olg [2, 2]) [] w' := by
    have h2 := H1.out
    have h3 := h2.new (.cells (VI .u8 ke1) 5 (2, 3))
    have h4 := h3.new (.cells (VI .u8 ke2) 5 (2, 3))
    have h5 := h4.new (.cells #[.slice (some ⟨V1.heap.size, 0, none⟩) 2 2, .slice (some ⟨(V1.alloc (.cells (VI .u8 ke1) 5 (2, 3))).heap.size, 0, none⟩) 2 2] 22)
    refine ⟨_, _, _, V1.alloc (.cells (VI .u8 ke1) 5 (2, 3)), (V1.alloc (.cells (VI .u8 ke1) 5 (2, 3))).alloc (.cells (VI .u8 ke2) 5 (2, 3)), _, rfl, rfl, rfl, ?_, ?_, rfl, ?_⟩
    · exact Lib.run_convert_bytes_const (P := Tryd.prog) V1 22 5 #[.int .u8 107, .int .u8 101] 2 2 Tryd.underlying22 Tryd.underlying5
    · exact Lib.run_convert_bytes_const (P := Tryd.prog) _ 22 5 #[.int .u8 101, .int .u8 108] 2 2 Tryd.underlying22 Tryd.underlying5
    · refine (dof_any (Ds := [ke1, ke2]) h5 ⟨⟨rfl, by decide⟩, fun j hj => ?_⟩ (fun D hD => by simp at hD; rcases hD with rfl | rfl; exact ke1_b; exact ke2_b) (fun _ => by decide) (by decide) HQ.out.2.1 HQ.out.2.2.1).mono ?_
      · have hj2 : j < 2 := hj
        have hc : j = 0 ∨ j = 1 := by omega
        rcases hc with rfl | rfl
        · exact ⟨_, 0, _, rfl, fun Z _ hq => by rw [cell_of_row Z _ _ _ _ _ (hq _ mem0)]; rfl, src_box (L := ke1) mem2 0 2 2 (by decide) (by decide)⟩
        · exact ⟨_, 0, _, rfl, fun Z _ hq => by rw [cell_of_row Z _ _ _ _ _ (hq _ mem0)]; rfl, src_box (L := ke2) mem1 0 2 2 (by decide) (by decide)⟩
      · rintro e w' ⟨rfl, h⟩
        exact ⟨rfl, h.sub (by simp)⟩
  have CO : Hid _ := co
  clear co CN
  go_upto_region 3 with (first | (go_at_call 26; refine Calls.mono CO.out ?_; rintro e W6 ⟨rfl, h6⟩; have H6 : Hid _ := h6; clear h6) | (with_reducible refine at_list ?_; first | (refine hold_store 54 (.tmp 2) (.tmp 15) rfl ?_)))
  refine store_row_new rfl 54 (.tmp 2) (.tmp 15) rfl W6.heap.size (VI .u8 (dig 32 [] kel)) rfl rfl rfl 54 (VI .u8 (List.replicate 32 0)) (by rw [VI_size, dig_len]; exact infoK) (by rw [VI_size, VI_size, dig_len]; rfl) (VI_one _ _) ?_
  have h7 := H6.out.new (.cells (VI .u8 (dig 32 [] kel)) 54)
  obtain ⟨p2, hp2⟩ : ∃ p, W6.heap.size = p := ⟨_, rfl⟩
  obtain ⟨W7, hW7⟩ : ∃ V, W6.alloc (.cells (VI .u8 (dig 32 [] kel)) 54) = V := ⟨_, rfl⟩
  rw [hW7, hp2] at h7 ⊢
  obtain ⟨s7, hs7⟩ : ∃ s, W7.heap.size = s := ⟨_, rfl⟩
  have hp7 : p2 < s7 := by rw [← hs7]; exact h7.lt mem0
  have e0 := ev_nil' W7
  rw [hs7] at e0
  have hB7 := HQ.out.2.1.below h7.old HQ.out.2.2.1
  have h27 : 2 ≤ s7 := by rw [← hs7]; exact hB7.2
  have hE7 : W7.cell? ⟨0, 0, none⟩ = some (.iface 120 (.pointer (some ea))) := (World.cell?_of_block (a := ⟨0, 0, none⟩) (h7.old.block 0 (by have := HQ.out.2.2.1; omega))).trans HQ.out.2.2.2
  have H7 : Hid (Ev q W (.pointer (some ⟨q, 0, none⟩)) (olg [2, 2]) [(p2, .cells (VI .u8 (dig 32 [] kel)) 54)] W7 ∧ p2 < s7 ∧ W7.heap.size = s7 ∧ Beg W7 ∧ 2 ≤ s7 ∧ W7.cell? ⟨0, 0, none⟩ = some (.iface 120 (.pointer (some ea)))) := ⟨h7, hp7, hs7, hB7, h27, hE7⟩
  have CN2 : Hid (Calls Tryd.prog 11 #[.pointer none, .int .i64 16, .slice none 0 0] W7 fun e w' => ∃ g, e = .returned (.tuple #[.pointer (some ⟨g, 0, none⟩), .nilIface]) ∧ NewOk s7 W7 (.pointer none) [] [] 16 [] g w') := dnew_any e0 (fun hr => absurd rfl hr) 16 ⟨by decide, by decide⟩ hB7 h27 (.slice none 0 0) [] ⟨none, 0, rfl, Nat.le_refl _, .inl rfl⟩ (by decide) (by intro x hx; cases hx)
  clear h7 hp7 hs7 e0 hW7 hp2 H6 CO hcv1 hcv2 hg1 hg2 hg3 hW5 hB7 h27 hE7
  go_upto_region 6 with (first | (go_at_call 11; refine Calls.mono CN2.out ?_; rintro e W8 ⟨g, rfl, h8⟩; have H8 : Hid _ := h8; clear h8 CN2))
  obtain ⟨o, hng, hho, he8⟩ := H8.out
  obtain ⟨blk0, hb0, rfl⟩ := hho.blk
  obtain ⟨g4, hg4⟩ : ∃ p, W8.heap.size = p := ⟨_, rfl⟩
  have h9 := he8.new (.cells (VI .u8 kel) 5 (4, 5))
  rw [hg4] at h9
  obtain ⟨W9, hW9⟩ : ∃ V, W8.alloc (.cells (VI .u8 kel) 5 (4, 5)) = V := ⟨_, rfl⟩
  have hcv : (convert 22 22 (.slice (some ⟨g4, 0, none⟩) 4 4)).run Tryd.prog (W8.alloc (.cells #[.int .u8 107, .int .u8 101, .int .u8 101, .int .u8 108] 5)) = .ok (.slice (some ⟨g4, 0, none⟩) 4 4) W9 := by
    rw [← hW9, ← hg4]
    exact Lib.run_convert_bytes_const (P := Tryd.prog) W8 22 5 #[.int .u8 107, .int .u8 101, .int .u8 101, .int .u8 108] 4 4 Tryd.underlying22 Tryd.underlying5
  rw [hW9] at h9
  have hgne : g ≠ g4 := by have := he8.lt mem0; omega
  have CW : Hid (Calls Tryd.prog 23 #[.pointer (some ⟨g, 0, none⟩), .slice (some ⟨g4, 0, none⟩) 4 4] W9 fun e w' => e = .returned (.tuple #[]) ∧ WrOk s7 W7 (.pointer none) ([] ++ nlg []) (wl (hld []).length kel.length) [(g4, .cells (VI .u8 kel) 5 (4, 5))] g 16 (h0 16 0) ([] ++ kel) w') := dwrite_src (D := kel) hb0 h9.flip (h0_s8 (by decide) (by decide)) (fun hr => absurd rfl hr) (fun p hp => by simp only [List.mem_cons, List.not_mem_nil, or_false] at hp; subst hp; exact fun e => hgne e.symm) (src_box (L := kel) mem0 0 4 4 (by decide) (by decide)) kel_b (by decide) H7.out.2.2.2.1 H7.out.2.2.2.2.1
  clear hng hho he8 hb0 H8 h9 hW9
  go_upto_region 7 with (first | (go_at_call 23; refine Calls.mono CW.out ?_; rintro e W10 ⟨rfl, h10⟩; have H10 : Hid _ := h10; clear h10 CW))
  clear hcv hg4
  obtain ⟨blk1, hb1, he10⟩ := H10.out
  have CS : Hid (Calls Tryd.prog 22 #[.pointer (some ⟨g, 0, none⟩)] W10 fun e w' => ∃ g5, e = .returned (.slice (some ⟨g5, 0, none⟩) 16 16) ∧ SuOk s7 W7 (.pointer none) _ _ (dig 16 [] kel) g5 w') := dsum_any hb1 he10 (h0_s8 (by decide) (by decide)) (by decide) (fun hr => absurd rfl hr) (fun p hp => by simp only [List.mem_cons, List.not_mem_nil, or_false] at hp; subst hp; exact fun e => hgne e.symm) (by decide) H7.out.2.2.2.1 H7.out.2.2.2.2.1
  clear hb1 he10 H10
  go_upto_region 8 with (first | (go_at_call 22; refine Calls.mono CS.out ?_; rintro e W11 ⟨g5, rfl, h11⟩; have H11 : Hid _ := h11; clear h11 CS))
  have CB : Hid (Calls Tryd.prog 11 #[.pointer none, .int .i64 0, .slice none 0 0] W11 fun e w' => e = .returned (.tuple #[.pointer none, .iface 120 (.pointer (some ea))]) ∧ Ev s7 W7 (.pointer none) _ _ w') := dnew_bad H11.out.2 (fun hr => absurd rfl hr) 0 _ H7.out.2.2.2.2.2 (by have := H7.out.2.2.2.2.1; omega) none 0 0 (.inl (by decide))
  go_upto_region 9 with (first | (go_at_call 11; refine Calls.mono CB.out ?_; rintro e W12 ⟨rfl, h12⟩; have H12 : Hid _ := h12; clear h12 CB))
  have hr2 : W12.heap[p2]? = some (.cells (VI .u8 (dig 32 [] kel)) 54) := (H12.out.old.block p2 H7.out.2.1).trans (H7.out.1.row mem0)
  have hr5 := H12.out.row mem0
  have c20 : W12.cell? ⟨p2, 0, none⟩ = some (.int .u8 29) := by rw [cell_of_row W12 _ _ _ _ _ hr2, VI_at _ _ _ (by rw [dig_len]; decide), kn32.1]
  have c21 : W12.cell? ⟨p2, 31, none⟩ = some (.int .u8 40) := by rw [cell_of_row W12 _ _ _ _ _ hr2, VI_at _ _ _ (by rw [dig_len]; decide), kn32.2]
  have c50 : W12.cell? ⟨g5, 0, none⟩ = some (.int .u8 220) := by rw [cell_of_row W12 _ _ _ _ _ hr5, VI_at _ _ _ (by rw [dig_len]; decide), kn16.1]
  have c51 : W12.cell? ⟨g5, 15, none⟩ = some (.int .u8 160) := by rw [cell_of_row W12 _ _ _ _ _ hr5, VI_at _ _ _ (by rw [dig_len]; decide), kn16.2]
  have ce : W12.cell? ⟨0, 0, none⟩ = some (.iface 120 (.pointer (some ea))) := (World.cell?_of_block (a := ⟨0, 0, none⟩) (H12.out.old.block 0 (by have := H7.out.2.2.2.2.1; omega))).trans H7.out.2.2.2.2.2
  have hbel : Below W7.heap.size W7 W12 := by rw [H7.out.2.2.1]; exact H12.out.old
  have h13 := H7.out.1.below hbel
  have CT : Hid _ := v_total h13
  have H13 : Hid (Below q W W12) := h13.old
  rw [knl] at CT
  have hee := eq_err ea W12
  clear hr2 hr5 hbel h13 H12 H11 H7 H1
  go_wp2_with (first | (go_at_call 34; refine Calls.mono CT.out ?_; rintro e W13 ⟨rfl, hV⟩; obtain rfl := hV))
  go_ret
  exact ⟨rfl, H13.out⟩
end Go.Proofs.YtfkbgodfcnmepaaDoor
namespace Go.Proofs.YtfkbgodfcnmepaaDoor
set_option linter.unusedSimpArgs false
set_option linter.unusedVariables false
open Go.ChangeShapes Go.WideShapes Go.ChangeAt Go.RowKit Go.Pin Go.Str Go.Dig Go.Deep
/-- a script -/
abbrev Stp := Bool × List Int
def Scr (W : World) (a : Option Addr) (l : List Stp) : Prop := ∀ i, i < l.length → ∃ b o u, a = some ⟨b, o, none⟩ ∧ W.cell? ⟨b, o + i * 2, none⟩ = some (.bool (l.getD i (false, [])).1) ∧ W.cell? ⟨b, o + i * 2 + 1, none⟩ = some u ∧ RdB W u (l.getD i (false, [])).2
theorem open_script {H : Type} {enc : TypeId × Value → H} {W : World} {a : Option Addr} {len cap : Nat} {d : DataW H} {p : List MemPlace}
    (h : DataW.Trod enc Tryd.prog W 0 (fun _ => true) true 41 (.slice a len cap) d p) : ∃ l : List Stp, l.length = len ∧ Scr W a l ∧ (∀ q ∈ l, Byt q.2 ∧ q.2.length ≤ maxLen) := by
  have he : Tryd.prog.underlying 44 = _ := Tryd.underlying44
  obtain ⟨fuel, hf⟩ := h
  rcases open_slice Tryd.underlying41 hf with ⟨hcs, _⟩ | ⟨x, len', cap', m, n, D, Pl, hcs, _, hl, hm, hmm, _, hx⟩
  · simp [Value.cells] at hcs
    obtain ⟨rfl, rfl, rfl⟩ := hcs
    exact ⟨[], rfl, (fun j hj => nomatch hj), (fun D hD => nomatch hD)⟩
  · simp [Value.cells] at hcs
    obtain ⟨rfl, rfl, rfl⟩ := hcs
    have hlm : len ≤ m := by rw [hmm]; split <;> omega
    have ce : Tryd.prog.cellsOf 44 = 2 := by kernel_rfl
    have cb : Tryd.prog.cellsOf 4 = 1 := by kernel_rfl
    have cl : Tryd.prog.cellsOf 22 = 1 := by kernel_rfl
    have each : ∀ i, i < len → ∃ q : Value × Stp, W.cell? (x.add (i * 2)) = some (.bool q.2.1) ∧ W.cell? (x.add (i * 2 + 1)) = some q.1 ∧ RdB W q.1 q.2.2 ∧ Byt q.2.2 ∧ q.2.2.length ≤ maxLen := by
      intro i hi
      obtain ⟨cs', h1, h2⟩ := hx i (by omega)
      rw [ce] at h1
      obtain ⟨_, hlen, hcell⟩ := World.cells?_some h1
      obtain ⟨xs, k, hk, hxy, _, hxl, hf⟩ := DataW.trod_struct he h2
      match xs, hxl with
      | [y0, y1], _ =>
        have g0 := hf 0 _ rfl
        have g1 := hf 1 _ rfl
        simp only [List.getElem_toArray, List.getElem_cons_zero, List.getElem_cons_succ, cb, cl, List.getElem?_cons_zero, List.getElem?_cons_succ] at g0 g1
        obtain ⟨z0, hz0, _⟩ := DataW.trod_bool Tryd.underlying4 g0
        obtain ⟨v, D, hc, hr, hb, hm⟩ := open_cells g1
        have e0 : cs'[0]? = some (.bool z0) := by
          have := congrArg (fun z => z[0]?) hz0
          simpa using this
        have e1 : cs'[1]? = some v := by
          have := congrArg (fun z => z[0]?) hc
          simpa using this
        refine ⟨(v, z0, D), ?_, ?_, hr, hb, hm⟩
        · have e := hcell 0 (by omega)
          rw [add_add, e0] at e
          exact e
        · have e := hcell 1 (by omega)
          rw [add_add, e1] at e
          exact e
    obtain ⟨q, hq⟩ := choose_lt each
    have hat : ∀ j, j < len → ((List.range len).map (fun i => (q i).2)).getD j (false, []) = (q j).2 := fun j hj => by simp [List.getD, hj]
    refine ⟨(List.range len).map (fun i => (q i).2), by simp, fun j hj => ?_, fun D hD => ?_⟩
    · have hj' : j < len := by simpa using hj
      have h0 := (hq 0 (by omega)).1
      rw [Nat.zero_mul] at h0
      obtain ⟨b, o, rfl⟩ := add_spot h0
      have h1 := (hq j hj').1
      have h2 := (hq j hj').2.1
      rw [add_mid] at h1 h2
      refine ⟨b, o, (q j).1, rfl, ?_, by rw [Nat.add_assoc]; exact h2, ?_⟩
      · rw [hat j hj']; exact h1
      · rw [hat j hj']
        exact (hq j hj').2.2.1
    · simp only [List.mem_map, List.mem_range] at hD
      obtain ⟨i, hi, rfl⟩ := hD
      exact (hq i hi).2.2.2
end Go.Proofs.YtfkbgodfcnmepaaDoor
namespace Go.Proofs.YtfkbgodfcnmepaaDoor
set_option linter.unusedSimpArgs false
set_option linter.unusedVariables false
open Go.ChangeShapes Go.WideShapes Go.ChangeAt Go.RowKit Go.Pin Go.Str Go.Dig Go.Deep
theorem own : ownKnob Tryd.prog.godebug = none := by kernel_rfl
theorem laidOut : laidOutB Tryd.prog = true := by kernel_rfl
def laidV : List (String × DataW Unit) := [("pintle/api.ErrArg", Rows.laid_pintle_api_ErrArg), ("pintle/digest.beginning", Rows.laid_pintle_digest_beginning)]
theorem g_err : Tryd.prog.globalNamed "pintle/api.ErrArg" = some 0 := by kernel_rfl
theorem g_beg : Tryd.prog.globalNamed "pintle/digest.beginning" = some 1 := by kernel_rfl
theorem t_err : (Tryd.prog.globals[0]?).map (·.type) = some 28 := by kernel_rfl
theorem t_beg : (Tryd.prog.globals[1]?).map (·.type) = some 63 := by kernel_rfl
theorem star : ("*errors.errorString" : String) = "*" ++ "errors.errorString" := by decide
theorem row_err : ∀ u, Tryd.prog.typeName? 3 u = some "*errors.errorString" → u = 120 := fun u h =>
  typeName_ptr_named (nm := "errors.errorString") (by rw [← star]; kernel_rfl) (by kernel_rfl) (by decide) u (by rw [← star]; exact h)
set_option maxRecDepth 100000 in
/-- what the two variables hold -/
theorem vars_of_laid {W : World} (h0 : laidMetH Tryd.prog laidV W) : Beg W ∧ ∃ a, W.cell? ⟨0, 0, none⟩ = some (.iface 120 (.pointer (some a))) := by
  have h : laidMet Tryd.prog laidV W := h0
  obtain ⟨ps, ⟨g0, t0, cs0, f0, p0, q0, hg0, ht0, hv0, hd0, ⟨g1, t1, cs1, f1, p1, q1, hg1, ht1, hv1, hd1, hq1, e1⟩, e0⟩, hnd, hrows⟩ := h
  obtain rfl := Option.some.inj (g_err.symm.trans hg0)
  obtain rfl := Option.some.inj (g_beg.symm.trans hg1)
  obtain rfl := Option.some.inj (t_err.symm.trans ht0)
  obtain rfl := Option.some.inj (t_beg.symm.trans ht1)
  have hq1' : q1 = [] := hq1
  subst hq1'
  subst e1
  subst e0
  obtain ⟨l0⟩ := cs0
  obtain ⟨l1⟩ := cs1
  have ok0 : ∀ u v, l0 = [.iface u v] → Value.okWide Tryd.prog W .any 0 u v := fun u v e => by
    subst e
    exact (hrows 0 0 (by simp [MemPlace.row])).2 u v (by simpa using World.var?_cell hg0 hv0 0)
  obtain ⟨a0, s0, rfl, hc0, hs0, hz0, rfl⟩ := errorString_of_trod Tryd.underlying28 row_err Tryd.underlying120 Tryd.underlying137 rfl rfl Tryd.underlying9 (by kernel_rfl) (by kernel_rfl) hd0 ok0
  have hl1 := Lib.cells_of_tab (zs := iv.map Int.ofNat) (k := .u32) Tryd.underlying63 Tryd.underlying62 (by kernel_rfl) (by kernel_rfl) hd1
  have hl1' : l1 = (iv.map Int.ofNat).map fun z => Value.int .u32 z := hl1
  subst hl1'
  refine ⟨⟨fun j v hj => ?_, ?_⟩, a0, by simpa using World.var?_cell hg0 hv0 0⟩
  · have := World.var?_cell hg1 hv1 j
    rw [Nat.zero_add, this, ← hj]
    simp
  · have := World.var?_cell hg1 hv1 0
    exact World.block_lt_of_cell? W _ this
end Go.Proofs.YtfkbgodfcnmepaaDoor
namespace Go.Proofs.YtfkbgodfcnmepaaDoor
set_option linter.unusedSimpArgs false
set_option linter.unusedVariables false
open Go.ChangeShapes Go.WideShapes Go.ChangeAt Go.RowKit Go.Pin Go.Str Go.Dig
theorem scr_at {W : World} {q : Nat} (hq : W.heap.size = q) {a : Option Addr} {S : List Stp} (h : Scr W a S) (hb : ∀ q ∈ S, Byt q.2 ∧ q.2.length ≤ maxLen) (i : Nat) (hi : i < S.length) : ∃ b o u, a = some ⟨b, o, none⟩ ∧ (∀ Y, Below q W Y → Y.cell? ⟨b, o + i * 2, none⟩ = some (.bool (S.getD i (false, [])).1) ∧ Y.cell? ⟨b, o + i * 2 + 1, none⟩ = some u) ∧ (∀ bx, Src q W bx u (S.getD i (false, [])).2) ∧ Byt (S.getD i (false, [])).2 ∧ (S.getD i (false, [])).2.length ≤ maxLen := by
  obtain ⟨b, o, u, h1, h2, h3, h4⟩ := h i hi
  have hm : S.getD i (false, []) ∈ S := by rw [List.getD_eq_getElem?_getD, List.getElem?_eq_getElem hi]; exact List.getElem_mem _
  refine ⟨b, o, u, h1, fun Y hY => ⟨?_, ?_⟩, fun bx => by rw [← hq]; exact h4.src bx, (hb _ hm).1, (hb _ hm).2⟩
  · rw [World.cell?_of_block (a := ⟨b, o + i * 2, none⟩) (hY.block b (by rw [← hq]; exact World.block_lt_of_cell? W _ h2))]
    exact h2
  · rw [World.cell?_of_block (a := ⟨b, o + i * 2 + 1, none⟩) (hY.block b (by rw [← hq]; exact World.block_lt_of_cell? W _ h2))]
    exact h3
theorem wrapL {m : Nat} (h : m ≤ 131072) : wrap64 (131072 - (m : Int)) = ((131072 - m : Nat) : Int) ∧ IntKind.i64.wrap (131072 - (m : Int)) = ((131072 - m : Nat) : Int) := by
  rw [IntWalk.wrap64_in _ ⟨by omega, by omega⟩, IntWalk.i64_in _ ⟨by omega, by omega⟩]
  omega
theorem wrapA {t m : Nat} (h : t + m ≤ 131072) : wrap64 ((t : Int) + (m : Int)) = ((t + m : Nat) : Int) ∧ IntKind.i64.wrap ((t : Int) + (m : Int)) = ((t + m : Nat) : Int) := by
  rw [IntWalk.wrap64_in _ ⟨by omega, by omega⟩, IntWalk.i64_in _ ⟨by omega, by omega⟩]
  omega
/-- the zero Hash, once it has taken A -/
def ZH (q : Nat) (W : World) (A : List Int) (w' : World) : Prop := ∃ blk, HSb A blk ∧ Ev q W (.pointer none) [] [(q, hst (.pointer none) 0 zst A blk)] w'
section
variable {q : Nat} {W w' : World} {A : List Int}
theorem ZH.old (h : ZH q W A w') : Below q W w' := by obtain ⟨b, h1, h2⟩ := h; exact h2.old
theorem ZH.write (h : ZH q W A w') (hB : Beg W) (h2 : 2 ≤ q) {D : List Int} {v : Value} (hD : Byt D) (hs : Src q W [] v D) (hl : A.length + D.length ≤ 200000) : Calls Tryd.prog 23 #[.pointer (some ⟨q, 0, none⟩), v] w' fun e w2 => e = .returned (.tuple #[]) ∧ ZH q W (A ++ D) w2 := by
  obtain ⟨b, h1, he⟩ := h
  refine (dwrite_src h1 he zst_s8 (fun hr => absurd rfl hr) (fun p hp => nomatch hp) hs hD (by omega) hB h2).mono ?_
  rintro e w2 ⟨rfl, b2, h3, h4⟩
  exact ⟨rfl, b2, h3, h4.nilOf []⟩
theorem ZH.sum (h : ZH q W A w') (hB : Beg W) (h2 : 2 ≤ q) (hl : A.length ≤ 200000) : Calls Tryd.prog 22 #[.pointer (some ⟨q, 0, none⟩)] w' fun e w2 => ∃ g2, e = .returned (.slice (some ⟨g2, 0, none⟩) 0 0) ∧ ZH q W A w2 := by
  obtain ⟨b, h1, he⟩ := h
  refine (dsum_any h1 he zst_s8 (by decide) (fun hr => absurd rfl hr) (fun p hp => nomatch hp) (by omega) hB h2).mono ?_
  rintro e w2 ⟨g2, rfl, h3, h4⟩
  exact ⟨g2, rfl, b, h1, h4.tail.nilOf []⟩
end
theorem known_at {q : Nat} {W w : World} (h : Below q W w) (hB : Beg W) (h2 : 2 ≤ q) (hE : ∃ a, W.cell? ⟨0, 0, none⟩ = some (.iface 120 (.pointer (some a)))) (hq : q ≤ w.heap.size) : Calls Tryd.prog 18 #[] w fun e w' => e = .returned (.bool true) ∧ Below q W w' := by
  obtain ⟨a, ha⟩ := hE
  refine (known_any w (hB.below h h2) ⟨a, (World.cell?_of_block (a := ⟨0, 0, none⟩) (h.block 0 (by omega))).trans ha⟩).mono ?_
  rintro e w' ⟨rfl, hb⟩
  exact ⟨rfl, h.trans (hb.mono hq)⟩
theorem ZH.le {q : Nat} {W w' : World} {A : List Int} (h : ZH q W A w') : q ≤ w'.heap.size := by obtain ⟨b, h1, h2⟩ := h; exact h2.le
set_option maxRecDepth 100000 in
set_option maxHeartbeats 16000000 in
theorem nothing_walk (S : List Stp) (a : Option Addr) (cap : Nat) (W : World) (hS : Scr W a S) (hb : ∀ q ∈ S, Byt q.2 ∧ q.2.length ≤ maxLen) (hB : Beg W) (hE : ∃ a, W.cell? ⟨0, 0, none⟩ = some (.iface 120 (.pointer (some a)))) :
    Calls Tryd.prog 7 #[.slice a S.length cap] W fun e w' => e = .returned (.bool true) ∧ Below W.heap.size W w' := by
  have e1 := (ev_nil' W).new (hst (.pointer none) 0 zst [] z64)
  obtain ⟨q, hq⟩ : ∃ q, W.heap.size = q := ⟨_, rfl⟩
  have HSC : Hid (∀ i, i < S.length → ∃ b o u, a = some ⟨b, o, none⟩ ∧ (∀ Y, Below q W Y → Y.cell? ⟨b, o + i * 2, none⟩ = some (.bool (S.getD i (false, [])).1) ∧ Y.cell? ⟨b, o + i * 2 + 1, none⟩ = some u) ∧ (∀ bx, Src q W bx u (S.getD i (false, [])).2) ∧ Byt (S.getD i (false, [])).2 ∧ (S.getD i (false, [])).2.length ≤ maxLen) := fun i hi => scr_at hq hS hb i hi
  obtain ⟨W0, hW0⟩ : ∃ V, W.alloc (hst (.pointer none) 0 zst [] z64) = V := ⟨_, rfl⟩
  rw [hW0, hq] at e1
  rw [← zhash] at hW0
  have HBE : Hid (Beg W ∧ 2 ≤ q ∧ ∃ a, W.cell? ⟨0, 0, none⟩ = some (.iface 120 (.pointer (some a)))) := ⟨hB, by rw [← hq]; exact hB.2, hE⟩
  have E1 : Hid (ZH q W [] W0) := ⟨z64, zhs, e1⟩
  rw [hq]
  obtain ⟨n, hn⟩ : ∃ n, S.length = n := ⟨_, rfl⟩
  rw [hn] at HSC ⊢
  have HB0 : Hid (Below q W W) := Below.refl _ _
  clear e1 hS hb hn hB hE
  by_cases hbig : n ≤ 400
  · have b0 : ¬ (400 : Int) < (n : Int) := by omega
    have b0' : ¬ 400 < n := by omega
    have HB : Hid (n ≤ 400) := hbig
    clear hbig
    go_enter Tryd.func7, Tryd.ntmps7
    go_wp2
    go_loopw [5, 6] (fun vt vi w' => ∃ (i t : Nat) (A : List Int), i ≤ n ∧ vi = .int .i64 (i : Int) ∧ vt = .int .i64 (t : Int) ∧ A.length = t ∧ t ≤ 131072 ∧ ZH q W A w') (fun _ vi _ => n - (intOf vi).toNat)
    case atStart => exact ⟨0, 0, [], Nat.zero_le _, rfl, rfl, rfl, by decide, E1.out⟩
    case round =>
      clear E1 hW0
      obtain ⟨i, t, A, hi, rfl, rfl, ht, htb, has⟩ := hrel
      have HA : Hid (A.length = t ∧ t ≤ 131072) := ⟨ht, htb⟩
      have HAS : Hid (ZH q W A wr) := has
      clear ht has
      by_cases hlt : i < n
      · have b1 : (i : Int) < (n : Int) := by omega
        obtain ⟨b, o, u, rfl, hcc, hsu, hDb, hDm⟩ := HSC.out i hlt
        obtain ⟨D, hD⟩ : ∃ D, (S.getD i (false, [])).2 = D := ⟨_, rfl⟩
        obtain ⟨ask, hask⟩ : ∃ k, (S.getD i (false, [])).1 = k := ⟨_, rfl⟩
        rw [hD] at hsu hDb hDm
        rw [hask] at hcc
        have HCC : Hid _ := hcc
        obtain ⟨c1, c2⟩ := hcc wr HAS.out.old
        obtain ⟨au, cu, rfl, _, _⟩ := id (hsu [])
        obtain ⟨m, hm⟩ : ∃ m, D.length = m := ⟨_, rfl⟩
        have HD : Hid (Byt D ∧ D.length = m ∧ Src q W [] (.slice au m cu) D) := ⟨hDb, hm, by rw [← hm]; exact hsu []⟩
        have HI1 : Hid (i < n ∧ n ≤ 400) := ⟨hlt, HB.out⟩
        rw [hm] at c2
        have HWL : Hid (wrap64 (131072 - (t : Int)) = ((131072 - t : Nat) : Int) ∧ IntKind.i64.wrap (131072 - (t : Int)) = ((131072 - t : Nat) : Int)) := wrapL htb
        obtain ⟨r, hr⟩ : ∃ r, 131072 - t = r := ⟨_, rfl⟩
        rw [hr] at HWL
        clear hcc hsu hDb hDm hD hask hm hi
        by_cases hgt : r < m
        · have b2 : (r : Int) < (m : Int) := by omega
          have HF : Hid (Below q W wr) := HAS.out.old
          obtain ⟨hw, hw'⟩ := HWL.out
          clear htb hr
          go_wp2
          go_ret
          exact ⟨rfl, HF.out⟩
        · have b2 : ¬ (r : Int) < (m : Int) := by omega
          have HMT : Hid (t + m ≤ 131072) := by show t + m ≤ 131072; omega
          have CWN : Hid (Calls Tryd.prog 23 #[.pointer none, .slice au m cu] wr fun e w' => e = .returned (.tuple #[]) ∧ w' = wr) := dwrite_nil _ wr
          have CW : Hid (Calls Tryd.prog 23 #[.pointer (some ⟨q, 0, none⟩), .slice au m cu] wr fun e w' => e = .returned (.tuple #[]) ∧ ZH q W (A ++ D) w') := HAS.out.write HBE.out.1 HBE.out.2.1 HD.out.1 HD.out.2.2 (by rw [HD.out.2.1, HA.out.1]; have := HMT.out; omega)
          have HAL : Hid ((A ++ D).length = t + m) := by
            have : (A ++ D).length = t + m := by rw [List.length_append, HA.out.1, HD.out.2.1]
            exact this
          have HAD : Hid ((A ++ D).length ≤ 200000) := by
            have : (A ++ D).length ≤ 200000 := by rw [HAL.out]; have := HMT.out; omega
            exact this
          clear htb hr hgt
          obtain ⟨hw, hw'⟩ := HWL.out
          obtain ⟨hwa, hwa'⟩ := wrapA HMT.out
          cases ask
          · go_wp2_with (first | (go_at_call 23; first | (refine Calls.mono CWN.out ?_; rintro e w2 ⟨rfl, hV⟩; obtain rfl := hV; clear CWN) | (refine Calls.mono CW.out ?_; rintro e w3 ⟨rfl, h3⟩; have H3 : Hid _ := h3; have c1 := (HCC.out w3 h3.old).1; clear h3 CW)))
            go_roundw
            case rel => exact ⟨i + 1, t + m, A ++ D, HI1.out.1, by go_num, by go_num, HAL.out, HMT.out, H3.out⟩
            case measure => have := HI1.out; simp only [intOf]; omega
          · go_wp2_with (first | (go_at_call 23; first | (refine Calls.mono CWN.out ?_; rintro e w2 ⟨rfl, hV⟩; obtain rfl := hV; clear CWN) | (refine Calls.mono CW.out ?_; rintro e w3 ⟨rfl, h3⟩; have CSN : Hid (Calls Tryd.prog 22 #[.pointer none] w3 fun e w' => e = .returned (.slice none 0 0) ∧ w' = w3) := dsum_nil w3; have CS : Hid (Calls Tryd.prog 22 #[.pointer (some ⟨q, 0, none⟩)] w3 fun e w2 => ∃ g2, e = .returned (.slice (some ⟨g2, 0, none⟩) 0 0) ∧ ZH q W (A ++ D) w2) := h3.sum HBE.out.1 HBE.out.2.1 HAD.out; have c1 := (HCC.out w3 h3.old).1; clear h3 CW)) | (go_at_call 22; first | (refine Calls.mono CSN.out ?_; rintro e w4 ⟨rfl, hV⟩; obtain rfl := hV; clear CSN) | (refine Calls.mono CS.out ?_; rintro e w5 ⟨g2, rfl, h5⟩; have H5 : Hid _ := h5; clear h5 CS)))
            go_roundw
            case rel => exact ⟨i + 1, t + m, A ++ D, HI1.out.1, by go_num, by go_num, HAL.out, HMT.out, H5.out⟩
            case measure => have := HI1.out; simp only [intOf]; omega
      · have b1 : ¬ (i : Int) < (n : Int) := by omega
        have CSN : Hid (Calls Tryd.prog 22 #[.pointer none] wr fun e w' => e = .returned (.slice none 0 0) ∧ w' = wr) := dsum_nil wr
        have CS : Hid (Calls Tryd.prog 22 #[.pointer (some ⟨q, 0, none⟩)] wr fun e w2 => ∃ g2, e = .returned (.slice (some ⟨g2, 0, none⟩) 0 0) ∧ ZH q W A w2) := HAS.out.sum HBE.out.1 HBE.out.2.1 (by rw [HA.out.1]; have := HA.out.2; omega)
        clear hi htb
        go_wp2_with (first | (go_at_call 22; first | (refine Calls.mono CSN.out ?_; rintro e w4 ⟨rfl, hV⟩; obtain rfl := hV; clear CSN) | (refine Calls.mono CS.out ?_; rintro e w5 ⟨g2, rfl, h5⟩; have CK : Hid (Calls Tryd.prog 18 #[] w5 fun e w' => e = .returned (.bool true) ∧ Below q W w') := known_at h5.old HBE.out.1 HBE.out.2.1 HBE.out.2.2 h5.le; clear h5 CS)) | (go_at_call 18; refine Calls.mono CK.out ?_; rintro e w6 ⟨rfl, h6⟩; have H6 : Hid _ := h6; clear h6 CK))
        go_ret
        exact ⟨rfl, H6.out⟩
  · have b0 : (400 : Int) < (n : Int) := by omega
    have b0' : 400 < n := by omega
    go_enter Tryd.func7, Tryd.ntmps7
    go_wp2
    go_ret
    exact ⟨rfl, HB0.out⟩
end Go.Proofs.YtfkbgodfcnmepaaDoor
