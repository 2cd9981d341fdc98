import Derived.Test.YtgfamcadgahiiabMacLs
import Derived.Test.YtgfamcadgahiiabMacK
namespace Go.Proofs.Ytgfamcadgahiiab
set_option linter.unusedSimpArgs false
set_option linter.unusedVariables false
open Go.ChangeShapes Go.WideShapes Go.ChangeAt Go.RowKit Go.Pin Go.Prm
theorem Ev.setAt {B : Nat} {w : World} {rv : Value} {l : List (Int × Int)} {bx : List (Nat × Obj)} {W : World} {g : Nat} {M : List Int} {T : TypeId} (h : Ev B w rv l ((g, .cells (VI .u8 M) T) :: bx) W) (hne : ∀ p ∈ bx, p.1 ≠ g) (i : Nat) (hi : i < M.length) (v : Int) :
    W.cell? ⟨g, i, none⟩ = some (.int .u8 (M.getD i 0)) ∧ W.frozen? ⟨g, i, none⟩ = false ∧ Ev B w rv l ((g, .cells (VI .u8 (M.set i v)) T) :: bx) (W.setCell ⟨g, i, none⟩ (.int .u8 v)) := by
  have hr := h.row mem0
  refine ⟨by rw [cell_of_row W _ _ _ _ _ hr, VI_at _ _ _ hi], frozen_of_row W _ _ _ _ hr, ?_⟩
  refine h.set rfl hne ((Grow.refl (fun k => k = g) W).setCell (p := ⟨g, i, none⟩) (.inl rfl) _) ?_
  rw [heap_setCell_same W _ _ _ _ _ hr]
  simp [VI, List.map_set]
theorem at16 (x : Int) : ∃ k : Nat, k < 16 ∧ (x.tmod 16 + 16).tmod 16 = (k : Int) ∧ IntKind.i64.wrap (x.tmod 16 + 16) = x.tmod 16 + 16 ∧ wrap64 (x.tmod 16 + 16) = x.tmod 16 + 16 := by
  have h1 : -16 < x.tmod 16 ∧ x.tmod 16 < 16 := ⟨Int.lt_tmod_of_pos x (by decide), Int.tmod_lt_of_pos x (by decide)⟩
  have h2 : 0 ≤ (x.tmod 16 + 16).tmod 16 := Int.tmod_nonneg _ (by omega)
  have h3 : (x.tmod 16 + 16).tmod 16 < 16 := Int.tmod_lt_of_pos _ (by decide)
  refine ⟨((x.tmod 16 + 16).tmod 16).toNat, by omega, by omega, IntWalk.i64_in _ ⟨by omega, by omega⟩, IntWalk.wrap64_in _ ⟨by omega, by omega⟩⟩
theorem set_same {T : List Int} {k : Nat} (hk : k < T.length) {v : Int} : (T = T.set k v) ↔ v = T.getD k 0 := by
  rw [List.getD_eq_getElem?_getD, List.getElem?_eq_getElem hk]
  constructor
  · intro h
    have := congrArg (fun l => l[k]?) h
    simp [hk] at this
    simpa using this.symm
  · intro h
    rw [h]
    simp
theorem xor_id {a b : Int} (ha : 0 ≤ a ∧ a < 256) (hb : 0 ≤ b ∧ b < 256) : (0 ≤ bits .xor .u8 a b ∧ bits .xor .u8 a b < 256) ∧ (bits .xor .u8 a b = a ↔ b = 0) := by
  obtain ⟨x, rfl⟩ := ofBv8 ha.1 ha.2
  obtain ⟨y, rfl⟩ := ofBv8 hb.1 hb.2
  rw [xor8]
  have := (x ^^^ y).isLt
  refine ⟨by omega, ?_⟩
  constructor
  · intro h
    have e : x ^^^ y = x := BitVec.eq_of_toNat_eq (by omega)
    have e2 : y = 0#8 := by
      have := congrArg (fun z => x ^^^ z) e
      simpa [← BitVec.xor_assoc] using this
    rw [e2]; rfl
  · intro h
    have e2 : y = 0#8 := BitVec.eq_of_toNat_eq (by simp; omega)
    rw [e2]
    simp
set_option maxRecDepth 100000 in
set_option maxHeartbeats 8000000 in
theorem right_walk (key : List Int) (hk : Key32 key) (Ds : List (List Int)) (hD : BytL Ds) (a : Option Addr) (cap : Nat) (W : World) (hR : PRd W a Ds) (hm : Ds.length ≤ maxLen) (x by' : Int) (hx : -9223372036854775808 ≤ x ∧ x < 9223372036854775808) (hby : 0 ≤ by' ∧ by' < 256) :
    Calls Try.prog 3 #[.agg (VI .u8 key), .slice a Ds.length cap, .int .i64 x, .int .u8 by'] W fun e w' => e = .returned (.bool true) ∧ Below W.heap.size W w' := by
  have e1 := (ev_nil' W).new (.cells (VI .u8 key) 23)
  have hsrc := fun bx => hR.src hm bx
  obtain ⟨q, hq⟩ : ∃ q, W.heap.size = q := ⟨_, rfl⟩
  rw [hq] at hsrc
  obtain ⟨W0, hW0⟩ : ∃ V, W.alloc (.cells (VI .u8 key) 23) = V := ⟨_, rfl⟩
  rw [hW0, hq] at e1
  rw [hq]
  obtain ⟨n, hn⟩ : ∃ n, Ds.length = n := ⟨_, rfl⟩
  rw [hn] at hsrc ⊢
  have HS : Hid (∀ bx, PSrc q W bx a n Ds) := hsrc
  have E1 : Hid (Ev q W (.pointer none) [] [(q, .cells (VI .u8 key) 23)] W0) := e1
  have HK : Hid (Key32 key ∧ BytL Ds ∧ (0 ≤ by' ∧ by' < 256)) := ⟨hk, hD, hby⟩
  have HI : Hid ((Try.prog.info? 23).map (·.size) = some (VI .u8 key).size) := by
    have : (Try.prog.info? 23).map (·.size) = some (VI .u8 key).size := by rw [VI_size, hk.len]; exact infoK
    exact this
  have HJ : Hid ((Try.prog.info? 23).map (·.size) = some key.length) := by
    have : (Try.prog.info? 23).map (·.size) = some key.length := by rw [hk.len]; exact infoK
    exact this
  have CL : Hid (Calls Try.prog 5 #[.slice a n cap] W0 fun e w' => ∃ v, e = .returned v ∧ (v = .bool true ∨ v = .bool false) ∧ w' = W0) := (long_some e1 (hsrc _)).mono (fun e w' hh => by
    obtain ⟨b, rfl, rfl⟩ := hh
    cases b
    · exact ⟨_, rfl, .inr rfl, rfl⟩
    · exact ⟨_, rfl, .inl rfl, rfl⟩)
  have HLD : Hid (W0.rangeAt q 0 (key.map (Value.int .u8))) := row_range (e1.row mem0)
  obtain ⟨T, hT⟩ : ∃ T, mtag key Ds.flatten = T := ⟨_, rfl⟩
  have hT16 : Tag16 T := by rw [← hT]; exact mtag_t _ _
  have HT : Hid (Tag16 T ∧ mtag key Ds.flatten = T) := ⟨hT16, hT⟩
  have CO : Hid (Calls Try.prog 6 #[.pointer none, .agg (VI .u8 key), .slice a n cap] W0 fun e w' => e = .returned (.agg (VI .u8 T)) ∧ Ev q W (.pointer none) [] [(q, .cells (VI .u8 key) 23)] w') := (of_any e1 hk (hsrc _) hD (fun h => absurd rfl h)).mono (fun e w' hh => ⟨by rw [hh.1, hT], hh.2.nilOf []⟩)
  have HCH : Hid (∀ (bx : List (Nat × Obj)) (Y : World) (tg : List Int), Tag16 tg → Ev q W (.pointer none) [] bx Y → Calls Try.prog 7 #[.pointer none, .agg (VI .u8 key), .agg (VI .u8 tg), .slice a n cap] Y fun e w' => e = .returned (.bool (decide (T = tg))) ∧ Ev q W (.pointer none) [] bx w') := by
    have : ∀ (bx : List (Nat × Obj)) (Y : World) (tg : List Int), Tag16 tg → Ev q W (.pointer none) [] bx Y → Calls Try.prog 7 #[.pointer none, .agg (VI .u8 key), .agg (VI .u8 tg), .slice a n cap] Y fun e w' => e = .returned (.bool (decide (T = tg))) ∧ Ev q W (.pointer none) [] bx w' := fun bx Y tg htg h => (check_any h HK.out.1 htg (HS.out bx) HK.out.2.1 (fun h => absurd rfl h)).mono (fun e w' hh => ⟨by rw [hh.1, HT.out.2], hh.2.nilOf []⟩)
    exact this
  have HIT : Hid ((Try.prog.info? 27).map (·.size) = some (VI .u8 T).size) := by
    have : (Try.prog.info? 27).map (·.size) = some (VI .u8 T).size := by rw [VI_size, hT16.len]; exact infoT
    exact this
  have HIT' : Hid ((Try.prog.info? 27).map (·.size) = some T.length) := by
    have : (Try.prog.info? 27).map (·.size) = some T.length := by rw [hT16.len]; exact infoT
    exact this
  have HST : Hid ((VI .u8 (List.replicate 16 0)).size = (VI .u8 T).size) := by
    have : (VI .u8 (List.replicate 16 0)).size = (VI .u8 T).size := by rw [VI_size, VI_size, hT16.len]; rfl
    exact this
  have HB0 : Hid (Below q W W0) := e1.old
  clear e1 hsrc hk hD hby hR hm hn hT hT16
  go_enter Try.func3, Try.ntmps3
  go_upto_if 11 with (first | (go_at_call 5; refine Calls.mono CL.out ?_; rintro e V0 ⟨v, rfl, hv, hV⟩; obtain rfl := hV))
  rcases hv with rfl | rfl
  · go_wp2
    go_ret
    exact ⟨rfl, HB0.out⟩
  · go_upto_region 4 with (first | (go_at_call 6; refine Calls.mono CO.out ?_; rintro e W2 ⟨rfl, h2⟩; have H2 : Hid _ := h2; clear h2) | (with_reducible refine at_list ?_; first | (refine load_midI rfl 23 (.tmp 4) rfl q 0 rfl .u8 key _ HLD.out Try.underlying23 rfl HJ.out ?_) | (refine hold_store 27 (.tmp 9) (.tmp 14) rfl ?_)))
    refine store_row_new rfl 27 (.tmp 9) (.tmp 14) rfl W2.heap.size (VI .u8 T) rfl rfl rfl 27 (VI .u8 (List.replicate 16 0)) HIT.out HST.out (VI_one _ _) ?_
    have h3 := H2.out.new (.cells (VI .u8 T) 27)
    have hp := H2.out.lt mem0
    obtain ⟨p9, hp9⟩ : ∃ p, W2.heap.size = p := ⟨_, rfl⟩
    obtain ⟨W3, hW3⟩ : ∃ V, W2.alloc (.cells (VI .u8 T) 27) = V := ⟨_, rfl⟩
    rw [hW3, hp9] at h3 ⊢
    rw [hp9] at hp
    have HLK : Hid (W3.rangeAt q 0 (key.map (Value.int .u8)) ∧ W3.rangeAt p9 0 (T.map (Value.int .u8))) := ⟨row_range (h3.row mem1), row_range (h3.row mem0)⟩
    have hc := HCH.out _ W3 T HT.out.1 h3
    rw [decide_eq_true rfl] at hc
    have CC : Hid _ := hc
    have HP : Hid (q < p9) := hp
    obtain ⟨k, hk16, hk1, hk2, hk3⟩ := at16 x
    clear h3 hc hp hW3 hp9 H2 CO CL HLD hW0 hq
    go_upto_region 7 with (first | (go_at_call 7; refine Calls.mono CC.out ?_; rintro e W4 ⟨rfl, h4⟩; have H4 : Hid _ := h4; clear h4) | (with_reducible refine at_list ?_; first | (refine load_midI rfl 23 (.tmp 4) rfl q 0 rfl .u8 key _ HLK.out.1 Try.underlying23 rfl HJ.out ?_) | (refine load_midI rfl 27 (.tmp 9) rfl p9 0 rfl .u8 T _ HLK.out.2 Try.underlying27 rfl HIT'.out ?_)))
    have hT := HT.out.1
    obtain ⟨c1, f1, e1⟩ := H4.out.setAt (fun p hp => by rw [List.mem_singleton.1 hp]; show q ≠ p9; have := HP.out; omega) k (by rw [hT.len]; exact hk16) (bits .xor .u8 (T.getD k 0) by')
    have hTk : 0 ≤ T.getD k 0 ∧ T.getD k 0 < 256 := by
      rw [List.getD_eq_getElem?_getD, List.getElem?_eq_getElem (by rw [hT.len]; exact hk16)]
      exact hT.bd _ (List.getElem_mem _)
    have hx := xor_id hTk HK.out.2.2
    have hT2 : Tag16 (T.set k (bits .xor .u8 (T.getD k 0) by')) := ⟨by rw [List.length_set]; exact hT.len, fun y hy => by
      rcases List.mem_or_eq_of_mem_set hy with hy | hy
      · exact hT.bd y hy
      · rw [hy]; exact hx.1⟩
    have hsame : decide (T = T.set k (bits .xor .u8 (T.getD k 0) by')) = (by' == 0) := by
      rw [Bool.eq_iff_iff]
      simp only [decide_eq_true_eq, beq_iff_eq]
      rw [set_same (by rw [hT.len]; exact hk16), hx.2]
    obtain ⟨v, hv⟩ : ∃ v, bits .xor .u8 (T.getD k 0) by' = v := ⟨_, rfl⟩
    obtain ⟨tk, htk⟩ : ∃ v, T.getD k 0 = v := ⟨_, rfl⟩
    rw [hv] at e1 hT2 hsame
    rw [htk] at c1 hv
    obtain ⟨W5, hW5⟩ : ∃ V, W4.setCell ⟨p9, k, none⟩ (.int .u8 v) = V := ⟨_, rfl⟩
    rw [hW5] at e1
    obtain ⟨T2, hT2e⟩ : ∃ T2, T.set k v = T2 := ⟨_, rfl⟩
    rw [hT2e] at e1 hT2 hsame
    have HLK5 : Hid (W5.rangeAt q 0 (key.map (Value.int .u8)) ∧ W5.rangeAt p9 0 (T2.map (Value.int .u8))) := ⟨row_range (e1.row mem1), row_range (e1.row mem0)⟩
    have hc5 := HCH.out _ W5 T2 hT2 e1
    rw [hsame] at hc5
    have CC5 : Hid _ := hc5
    have HIT2 : Hid ((Try.prog.info? 27).map (·.size) = some T2.length) := by
      have : (Try.prog.info? 27).map (·.size) = some T2.length := by rw [hT2.len]; exact infoT
      exact this
    have b1 : (k : Int) < 16 := by omega
    clear hc5 e1 hsame hT2 hT2e htk hx hTk hT H4 CC HLK
    go_wp2_with (first | (go_at_call 7; refine Calls.mono CC5.out ?_; rintro e W6 ⟨rfl, h6⟩; have CK : Hid (Calls Try.prog 8 #[] W6 fun e w' => e = .returned (.bool true) ∧ Below q W w') := (known_any W6).mono (fun e w' hh => ⟨hh.1, (h6.below hh.2).old⟩); clear h6) | (go_at_call 8; refine Calls.mono CK.out ?_; rintro e W7 ⟨rfl, h7⟩; have H7 : Hid _ := h7; clear h7) | (with_reducible refine at_list ?_; first | (refine load_midI rfl 23 (.tmp 4) rfl q 0 rfl .u8 key _ HLK5.out.1 Try.underlying23 rfl HJ.out ?_) | (refine load_midI rfl 27 (.tmp 9) rfl p9 0 rfl .u8 T2 _ HLK5.out.2 Try.underlying27 rfl HIT2.out ?_)))
    go_ret
    exact ⟨rfl, H7.out⟩
end Go.Proofs.Ytgfamcadgahiiab
