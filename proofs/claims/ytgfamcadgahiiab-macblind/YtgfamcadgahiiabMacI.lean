import Derived.Test.YtgfamcadgahiiabMacH
import Derived.Lib.SlBytesConst
namespace Go.Proofs.Ytgfamcadgahiiab
set_option linter.unusedSimpArgs false
set_option linter.unusedVariables false
open Go.ChangeShapes Go.WideShapes Go.ChangeAt Go.RowKit Go.Pin Go.Prm
theorem put_comm (a : Act) {d e : Nat} (v u : Value) (h : d ≠ e) : (a.put (some d) v).put (some e) u = (a.put (some e) u).put (some d) v := by
  simp only [Act.put]
  rw [Array.setIfInBounds_comm _ _ h]
section
variable {P : Program} {ops : Array Oper} {Q : Exit → Act → World → Prop} {S : World → Prop} {fuel : Nat} {listed : Array Bool} {a : Act} {w : World}
/-- two may come up -/
theorem readyH2 {i j : Nat} {op oq : Op} {d e : Option Nat} (hi : opIs ops i op d) (hj : opIs ops j oq e) (hr : Region.ready .any ops listed = [i, j])
    (h1 : ∀ o : Oper, o.op = op → o.dst = d → Oper.wp P o a w (fun a' w' => S w' ∧ wpAnyH P .any ops Q S fuel (listed.setIfInBounds i true) a' w') Q)
    (h2 : ∀ o : Oper, o.op = oq → o.dst = e → Oper.wp P o a w (fun a' w' => S w' ∧ wpAnyH P .any ops Q S fuel (listed.setIfInBounds j true) a' w') Q) : wpAnyH P .any ops Q S (fuel + 1) listed a w := by
  obtain ⟨o1, k1, g1, p1, q1⟩ := hi.get
  obtain ⟨o2, k2, g2, p2, q2⟩ := hj.get
  refine wpAnyH_all hr (by simp) (fun k hk => ?_)
  simp only [List.mem_cons, List.not_mem_nil, or_false] at hk
  rcases hk with rfl | rfl
  · unfold wpOp
    simp only [k1]
    rw [if_pos (wanted_none g1 _)]
    exact .inl (h1 o1 p1 q1)
  · unfold wpOp
    simp only [k2]
    rw [if_pos (wanted_none g2 _)]
    exact .inl (h2 o2 p2 q2)
end
theorem freeze_at {w : World} {g k : Nat} {C : Array Value} {e : TypeId} (h : w.heap[g]? = some (.cells C e)) : (w.freeze ⟨g, k, none⟩ 1).heap[g]? = some (.cells C e (k, k + 1)) := by
  unfold World.freeze
  rw [if_neg (by decide)]
  simp [Array.getElem?_modify, h]
theorem freeze_grow (w : World) (g k : Nat) : Grow (fun x => x = g) w (w.freeze ⟨g, k, none⟩ 1) := by
  unfold World.freeze
  rw [if_neg (by decide)]
  refine ⟨rfl, rfl, rfl, by simp, fun x hx hn => ?_⟩
  have : ¬ g = x := fun e => hn e.symm
  simp [Array.getElem?_modify, this]
theorem run_convM {a : Act} {o : Oper} {x : Operand} {w : World} {g n c : Nat} {C : Array Value} (ho : o.op = .convert 32 32 x) (he : a.eval x = .slice (some ⟨g, 0, none⟩) n c) (hg : w.heap[g]? = some (.cells C 5)) : (execOp a.eval o).run Try.prog w = .ok (.value (.slice (some ⟨g, 0, none⟩) n c)) (w.freeze ⟨g, C.size, none⟩ 1) := by
  have hsh : w.shape? g = some (5, C.size) := by unfold World.shape?; rw [hg]
  unfold execOp
  simp only [ho, he]
  simp [convert, run_underlying Try.underlying32, run_underlying Try.underlying5, markStringish, hsh]
  try rfl
theorem run_bsL {a : Act} {o : Oper} {x : Operand} {v : Value} (ho : o.op = .buildSlice 24 1 #[(0, x)]) (he : a.eval x = v) {ad : Option Addr} {n c : Nat} (hv : v = .slice ad n c) (w : World) : (execOp a.eval o).run Try.prog w = .ok (.value (.slice (some ⟨w.heap.size, 0, none⟩) 1 1)) (w.alloc (.cells #[v] 32)) := by
  subst hv
  unfold execOp
  simp only [ho]
  have e : (Array.map (fun (x : Nat × Operand) => (x.fst, a.eval x.snd)) #[(0, x)]) = #[(0, .slice ad n c)] := by simp [he]
  rw [e]
  go_simp
/-! the key 0, 1, 2 .. -/
def kl (m : Nat) : List Int := (List.range 32).map fun p => if p < m then (p : Int) else 0
theorem kl_len (m : Nat) : (kl m).length = 32 := by simp [kl]
theorem kl_byt (m : Nat) : Byt (kl m) := fun x hx => by
  simp only [kl, List.mem_map, List.mem_range] at hx
  obtain ⟨p, hp, rfl⟩ := hx
  split <;> omega
theorem kl_key (m : Nat) : Key32 (kl m) := ⟨kl_len m, kl_byt m⟩
theorem kl_set : ∀ m : Fin 32, (kl m).set m (m : Nat) = kl (m + 1) := by decide +kernel
theorem zero32_lit : VI .u8 (kl 0) = #[.int .u8 0, .int .u8 0, .int .u8 0, .int .u8 0, .int .u8 0, .int .u8 0, .int .u8 0, .int .u8 0, .int .u8 0, .int .u8 0, .int .u8 0, .int .u8 0, .int .u8 0, .int .u8 0, .int .u8 0, .int .u8 0, .int .u8 0, .int .u8 0, .int .u8 0, .int .u8 0, .int .u8 0, .int .u8 0, .int .u8 0, .int .u8 0, .int .u8 0, .int .u8 0, .int .u8 0, .int .u8 0, .int .u8 0, .int .u8 0, .int .u8 0, .int .u8 0] := rfl
set_option maxRecDepth 100000 in
set_option maxHeartbeats 4000000 in
theorem counted_any (W : World) : Calls Try.prog 19 #[] W fun e w' => e = .returned (.agg (VI .u8 (kl 32))) ∧ Below W.heap.size W w' := by
  have h0 := ((ev_nil' W).new (.cells (VI .u8 (kl 0)) 23)).new (.cells (VI .u8 (kl 0)) 23)
  obtain ⟨q, hq⟩ : ∃ q, W.heap.size = q := ⟨_, rfl⟩
  simp only [size_alloc, hq] at h0
  obtain ⟨V0, hV0⟩ : ∃ V, W.alloc (.cells (VI .u8 (kl 0)) 23) = V := ⟨_, rfl⟩
  obtain ⟨W0, hW0⟩ : ∃ V, V0.alloc (.cells (VI .u8 (kl 0)) 23) = V := ⟨_, rfl⟩
  have hsV : V0.heap.size = q + 1 := by rw [← hV0, size_alloc, hq]
  rw [hV0, hW0] at h0
  rw [zero32_lit] at hV0 hW0
  have H0 : Hid (Ev q W (.pointer none) [] [(q + 1, .cells (VI .u8 (kl 0)) 23), (q, .cells (VI .u8 (kl 0)) 23)] W0) := h0
  have HS : Hid (V0.heap.size = q + 1 ∧ W.heap.size = q) := ⟨hsV, hq⟩
  have HX : Hid (∀ m w', m < 32 → Ev q W (.pointer none) [] [(q + 1, .cells (VI .u8 (kl m)) 23), (q, .cells (VI .u8 (kl 0)) 23)] w' → (∃ x : Int, w'.cell? ⟨q + 1, m, none⟩ = some (.int .u8 x)) ∧ w'.frozen? ⟨q + 1, m, none⟩ = false ∧ Ev q W (.pointer none) [] [(q + 1, .cells (VI .u8 (kl (m + 1))) 23), (q, .cells (VI .u8 (kl 0)) 23)] (w'.setCell ⟨q + 1, m, none⟩ (.int .u8 (m : Int)))) := fun m w' hm h => by
    have hr := h.row mem0
    refine ⟨⟨_, by rw [cell_of_row w' _ _ _ _ _ hr, VI_at _ _ _ (by rw [kl_len]; exact hm)]⟩, frozen_of_row w' _ _ _ _ hr, ?_⟩
    refine h.set rfl (fun p hp => by rw [List.mem_singleton.1 hp]; show q ≠ q + 1; omega) ((Grow.refl (fun k => k = q + 1) w').setCell (p := ⟨q + 1, m, none⟩) (.inl rfl) _) ?_
    rw [heap_setCell_same w' _ _ _ _ _ hr]
    have := kl_set ⟨m, hm⟩
    simp only at this
    rw [← this]
    simp [VI]
  have HI : Hid ((Try.prog.info? 23).map (·.size) = some (kl 32).length) := infoK
  clear h0 hsV
  go_enter Try.func19, Try.ntmps19
  rw [HS.out.2]
  go_wp2
  rw [HS.out.1]
  go_loopw [2] (fun v w' => ∃ m : Nat, m ≤ 32 ∧ v = .int .i64 (m : Int) ∧ Ev q W (.pointer none) [] [(q + 1, .cells (VI .u8 (kl m)) 23), (q, .cells (VI .u8 (kl 0)) 23)] w') (fun v _ => 32 - (intOf v).toNat)
  case atStart => exact ⟨0, Nat.zero_le _, rfl, H0.out⟩
  case round =>
    clear H0 hW0 hV0
    obtain ⟨m, hm, rfl, hp⟩ := hrel
    by_cases hlt : m < 32
    · obtain ⟨⟨x, c1⟩, f1, h1⟩ := HX.out m wr hlt hp
      have b1 : (m : Int) < 32 := by omega
      have e1 : IntKind.u8.wrap (m : Int) = (m : Int) := by rw [IntKind.wrap_u8']; omega
      have H1 : Hid _ := h1
      clear h1 hp HX
      go_wp2
      go_roundw
      case rel => exact ⟨m + 1, by omega, by go_num, H1.out⟩
      case measure => simp only [intOf]; omega
    · have hm' : m = 32 := by omega
      have b1 : ¬ (m : Int) < 32 := by omega
      rw [hm'] at hp
      have HP : Hid (Ev q W (.pointer none) [] [(q + 1, .cells (VI .u8 (kl 32)) 23), (q, .cells (VI .u8 (kl 0)) 23)] wr) := hp
      have HLD : Hid (wr.rangeAt (q + 1) 0 ((kl 32).map (Value.int .u8))) := row_range (hp.row mem0)
      clear hp HX hm'
      go_wp2_with (with_reducible refine at_list ?_; first | (refine load_midI rfl 23 (.tmp 1) rfl (q + 1) 0 rfl .u8 (kl 32) _ HLD.out Try.underlying23 rfl HI.out ?_) | (refine hold_store 23 (.tmp 0) (.tmp 11) rfl ?_))
      have h3 := HP.out.flip
      have ht3 := row_there (h3.row mem0)
      refine store_rowI rfl 23 (.tmp 0) (.tmp 11) rfl q .u8 (kl 32) rfl rfl ht3 HI.out rfl ?_
      have h4 := h3.storeRow (L' := kl 32) (fun p hp => by rw [List.mem_singleton.1 hp]; show q + 1 ≠ q; omega) rfl
      obtain ⟨W5, hW5⟩ : ∃ V, wr.setCells q 0 (VI .u8 (kl 32)).toList = V := ⟨_, rfl⟩
      rw [hW5] at h4 ⊢
      have H5 : Hid (Below q W W5) := h4.old
      have HR5 : Hid (W5.heap[q]? = some (.cells (VI .u8 (kl 32)) 23)) := h4.row mem0
      have HI5 : Hid ((Try.prog.info? 23).map (·.size) = some (VI .u8 (kl 32)).size) := infoK
      clear h4 h3 ht3 hW5
      go_wp2
      refine bodyPost_ret (v := .agg (VI .u8 (kl 32))) ?_ rfl ⟨rfl, H5.out⟩
      exact results_cell_row (P := Try.prog) (fn := Try.f19) (p := 0) (ty := 23) rfl _ _ q 23 (VI .u8 (kl 32)) (0, 0) _ rfl HR5.out Try.underlying23 rfl HI5.out
end Go.Proofs.Ytgfamcadgahiiab
