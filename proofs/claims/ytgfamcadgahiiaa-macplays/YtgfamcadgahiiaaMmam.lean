import Derived.Lib.SlBytesConst
import Derived.Test.YtgfamcadgahiiaaMmal
import Derived.Test.YtgfamcadgahiiaaMmad
import Derived.Test.YtgfamcadgahiiaaMmak
namespace Go.Proofs.Ytgfamcadgahiiaa
set_option linter.unusedSimpArgs false
set_option linter.unusedVariables false
open Go.ChangeShapes Go.WideShapes Go.ChangeAt Go.RowKit Go.Pin Go.Prm
theorem RdB.below' {W Y : World} {v : Value} {D : List Int} (h : RdB W v D) (hb : Below W.heap.size W Y) : RdB Y v D := by
  obtain ⟨a, c, h1, h2, h3⟩ := h
  refine ⟨a, c, h1, h2, ?_⟩
  by_cases hD : D = []
  · exact .inl hD
  · rcases h3 with e | ⟨b, o, h4, h5⟩
    · exact absurd e hD
    · exact .inr ⟨b, o, h4, rangeAt_block h5 (hb.block b (range_lt h5 (by rw [List.length_map]; exact List.length_pos_iff.2 hD)))⟩
theorem cell_below {W Y : World} {b o : Nat} {v : Value} (h : W.cell? ⟨b, o, none⟩ = some v) (hb : Below W.heap.size W Y) : Y.cell? ⟨b, o, none⟩ = some v := by
  rw [World.cell?_of_block (a := ⟨b, o, none⟩) (hb.block b (World.block_lt_of_cell? W _ h))]
  exact h
/-- what untouched reads of a piece -/
structure UT (W : World) (a1 a2 a3 : Option Addr) (i : Nat) : Prop where
  out : ∃ D m b1 o1 aw cw b2 o2 al cl b3 o3 au cu, a1 = some ⟨b1, o1, none⟩ ∧ W.cell? ⟨b1, o1 + i, none⟩ = some (.slice aw (m + 70) cw) ∧ RdB W (.slice aw (m + 70) cw) (room D) ∧ a2 = some ⟨b2, o2, none⟩ ∧ W.cell? ⟨b2, o2 + i, none⟩ = some (.slice al m cl) ∧ a3 = some ⟨b3, o3, none⟩ ∧ W.cell? ⟨b3, o3 + i, none⟩ = some (.slice au m cu) ∧ RdB W (.slice au m cu) D ∧ m ≤ 131072
set_option maxRecDepth 100000 in
set_option maxHeartbeats 16000000 in
theorem untouched_any (W : World) (a1 a2 a3 : Option Addr) (n c1 c2 c3 : Nat) (hn : n ≤ 400) (hU : ∀ i, i < n → UT W a1 a2 a3 i) :
    Calls Try.prog 28 #[.slice a1 n c1, .slice a2 n c2, .slice a3 n c3] W fun e w' => e = .returned (.bool true) ∧ Below W.heap.size W w' := by
  have HU : Hid (n ≤ 400 ∧ ∀ i, i < n → UT W a1 a2 a3 i) := ⟨hn, hU⟩
  have H0 : Hid (Below W.heap.size W W) := Below.refl _ _
  clear hn hU
  go_enter Try.func28, Try.ntmps28
  go_wp2
  go_loopw [7] (fun vi w' => ∃ i : Nat, i ≤ n ∧ vi = .int .i64 (i : Int) ∧ Below W.heap.size W w') (fun vi _ => n - (intOf vi).toNat)
  case atStart => exact ⟨0, Nat.zero_le _, rfl, H0.out⟩
  case round =>
    clear H0
    obtain ⟨i, hi, rfl, hp⟩ := hrel
    have HPB : Hid (Below W.heap.size W wr) := hp
    clear hp
    by_cases hlt : i < n
    · have b1 : (i : Int) < (n : Int) := by omega
      obtain ⟨D, m, k1, o1, aw, cw, k2, o2, al, cl, k3, o3, au, cu, rfl, h1, h2, rfl, h3, rfl, h4, h5, hm⟩ := (HU.out.2 i hlt).out
      have HC1 : Hid (∀ Y, Below W.heap.size W Y → Y.cell? ⟨k1, o1 + i, none⟩ = some (.slice aw (m + 70) cw)) := fun Y hY => cell_below h1 hY
      have HC2 : Hid (∀ Y, Below W.heap.size W Y → Y.cell? ⟨k2, o2 + i, none⟩ = some (.slice al m cl)) := fun Y hY => cell_below h3 hY
      have HC3 : Hid (∀ Y, Below W.heap.size W Y → Y.cell? ⟨k3, o3 + i, none⟩ = some (.slice au m cu)) := fun Y hY => cell_below h4 hY
      have HR1 : Hid (RdB W (.slice aw (m + 70) cw) (room D)) := h2
      have HR3 : Hid (RdB W (.slice au m cu) D) := h5
      have HM : Hid (m ≤ 131072) := hm
      have HI : Hid (i < n ∧ n ≤ 400) := ⟨hlt, HU.out.1⟩
      clear h1 h2 h3 h4 h5 hm hi
      go_upto_region 4 with fail
      refine wp_region_quiet_in (C := fun Y => Below W.heap.size W Y) (by kernel_rfl) (by kernel_rfl) (HPB.out.trans ⟨rfl, rfl, rfl, Nat.le_refl _, fun _ _ => rfl⟩) ?_
      refine wpQuiet_step (fun K hK => ?_)
      go_simp
      first | refine hK _ ?_ | refine ⟨_, fun _ _ => rfl, hK _ ?_⟩
      clear hK K
      try simp only [Act.put, List.getElem_toArray, List.getElem_cons_succ, List.getElem_cons_zero, List.getElem?_toArray, List.getElem?_cons_succ, List.getElem?_cons_zero, List.setIfInBounds_toArray, List.set_cons_zero, List.set_cons_succ]
      refine wpQuiet_step (fun K hK => ?_)
      go_simp
      first | refine hK _ ?_ | refine ⟨_, fun _ _ => rfl, hK _ ?_⟩
      clear hK K
      try simp only [Act.put, List.getElem_toArray, List.getElem_cons_succ, List.getElem_cons_zero, List.getElem?_toArray, List.getElem?_cons_succ, List.getElem?_cons_zero, List.setIfInBounds_toArray, List.set_cons_zero, List.set_cons_succ]
      refine wpQuiet_step (fun K hK => ?_)
      go_simp
      first | refine hK _ ?_ | refine ⟨_, fun _ _ => rfl, hK _ ?_⟩
      clear hK K
      try simp only [Act.put, List.getElem_toArray, List.getElem_cons_succ, List.getElem_cons_zero, List.getElem?_toArray, List.getElem?_cons_succ, List.getElem?_cons_zero, List.setIfInBounds_toArray, List.set_cons_zero, List.set_cons_succ]
      refine wpQuiet_step (fun K hK => ?_)
      refine if_pos_mpr (by kernel_rfl) ⟨.slice aw (m + 70) cw, fun Y hY => ?_, hK _ ?_⟩
      · have cY := HC1.out Y hY
        go_simp
      clear hK K
      try simp only [Act.put, List.getElem_toArray, List.getElem_cons_succ, List.getElem_cons_zero, List.getElem?_toArray, List.getElem?_cons_succ, List.getElem?_cons_zero, List.setIfInBounds_toArray, List.set_cons_zero, List.set_cons_succ]
      refine wpQuiet_step (fun K hK => ?_)
      go_simp
      first | refine hK _ ?_ | refine ⟨_, fun _ _ => rfl, hK _ ?_⟩
      clear hK K
      try simp only [Act.put, List.getElem_toArray, List.getElem_cons_succ, List.getElem_cons_zero, List.getElem?_toArray, List.getElem?_cons_succ, List.getElem?_cons_zero, List.setIfInBounds_toArray, List.set_cons_zero, List.set_cons_succ]
      refine wpQuiet_step (fun K hK => ?_)
      go_simp
      first | refine hK _ ?_ | refine ⟨_, fun _ _ => rfl, hK _ ?_⟩
      clear hK K
      try simp only [Act.put, List.getElem_toArray, List.getElem_cons_succ, List.getElem_cons_zero, List.getElem?_toArray, List.getElem?_cons_succ, List.getElem?_cons_zero, List.setIfInBounds_toArray, List.set_cons_zero, List.set_cons_succ]
      refine wpQuiet_step (fun K hK => ?_)
      go_simp
      first | refine hK _ ?_ | refine ⟨_, fun _ _ => rfl, hK _ ?_⟩
      clear hK K
      try simp only [Act.put, List.getElem_toArray, List.getElem_cons_succ, List.getElem_cons_zero, List.getElem?_toArray, List.getElem?_cons_succ, List.getElem?_cons_zero, List.setIfInBounds_toArray, List.set_cons_zero, List.set_cons_succ]
      refine wpQuiet_step (fun K hK => ?_)
      refine if_pos_mpr (by kernel_rfl) ⟨.slice au m cu, fun Y hY => ?_, hK _ ?_⟩
      · have cY := HC3.out Y hY
        go_simp
      clear hK K
      try simp only [Act.put, List.getElem_toArray, List.getElem_cons_succ, List.getElem_cons_zero, List.getElem?_toArray, List.getElem?_cons_succ, List.getElem?_cons_zero, List.setIfInBounds_toArray, List.set_cons_zero, List.set_cons_succ]
      refine wpQuiet_step (fun K hK => ?_)
      refine if_pos_mpr (by kernel_rfl) ⟨.bool true, fun Y hY => ?_, hK _ ?_⟩
      · go_simp
        exact (stands_any Y D aw au m (m + 70) cw cu (HR1.out.below' hY) (HR3.out.below' hY) HM.out).mono (fun e w' hh => ⟨hh.1, hY.trans (hh.2.mono hY.size)⟩)
      clear hK K
      try simp only [Act.put, List.getElem_toArray, List.getElem_cons_succ, List.getElem_cons_zero, List.getElem?_toArray, List.getElem?_cons_succ, List.getElem?_cons_zero, List.setIfInBounds_toArray, List.set_cons_zero, List.set_cons_succ]
      refine wpQuiet_step (fun K hK => ?_)
      go_simp
      first | refine hK _ ?_ | refine ⟨_, fun _ _ => rfl, hK _ ?_⟩
      clear hK K
      try simp only [Act.put, List.getElem_toArray, List.getElem_cons_succ, List.getElem_cons_zero, List.getElem?_toArray, List.getElem?_cons_succ, List.getElem?_cons_zero, List.setIfInBounds_toArray, List.set_cons_zero, List.set_cons_succ]
      refine wpQuiet_step (fun K hK => ?_)
      go_simp
      first | refine hK _ ?_ | refine ⟨_, fun _ _ => rfl, hK _ ?_⟩
      clear hK K
      try simp only [Act.put, List.getElem_toArray, List.getElem_cons_succ, List.getElem_cons_zero, List.getElem?_toArray, List.getElem?_cons_succ, List.getElem?_cons_zero, List.setIfInBounds_toArray, List.set_cons_zero, List.set_cons_succ]
      refine wpQuiet_step (fun K hK => ?_)
      go_simp
      first | refine hK _ ?_ | refine ⟨_, fun _ _ => rfl, hK _ ?_⟩
      clear hK K
      try simp only [Act.put, List.getElem_toArray, List.getElem_cons_succ, List.getElem_cons_zero, List.getElem?_toArray, List.getElem?_cons_succ, List.getElem?_cons_zero, List.setIfInBounds_toArray, List.set_cons_zero, List.set_cons_succ]
      refine wpQuiet_step (fun K hK => ?_)
      go_simp
      first | refine hK _ ?_ | refine ⟨_, fun _ _ => rfl, hK _ ?_⟩
      clear hK K
      try simp only [Act.put, List.getElem_toArray, List.getElem_cons_succ, List.getElem_cons_zero, List.getElem?_toArray, List.getElem?_cons_succ, List.getElem?_cons_zero, List.setIfInBounds_toArray, List.set_cons_zero, List.set_cons_succ]
      refine wpQuiet_step (fun K hK => ?_)
      go_simp
      first | refine hK _ ?_ | refine ⟨_, fun _ _ => rfl, hK _ ?_⟩
      clear hK K
      try simp only [Act.put, List.getElem_toArray, List.getElem_cons_succ, List.getElem_cons_zero, List.getElem?_toArray, List.getElem?_cons_succ, List.getElem?_cons_zero, List.setIfInBounds_toArray, List.set_cons_zero, List.set_cons_succ]
      refine wpQuiet_step (fun K hK => ?_)
      refine if_pos_mpr (by kernel_rfl) ⟨.slice al m cl, fun Y hY => ?_, hK _ ?_⟩
      · have cY := HC2.out Y hY
        go_simp
      clear hK K
      try simp only [Act.put, List.getElem_toArray, List.getElem_cons_succ, List.getElem_cons_zero, List.getElem?_toArray, List.getElem?_cons_succ, List.getElem?_cons_zero, List.setIfInBounds_toArray, List.set_cons_zero, List.set_cons_succ]
      refine wpQuiet_step (fun K hK => ?_)
      go_simp
      first | refine hK _ ?_ | refine ⟨_, fun _ _ => rfl, hK _ ?_⟩
      clear hK K
      try simp only [Act.put, List.getElem_toArray, List.getElem_cons_succ, List.getElem_cons_zero, List.getElem?_toArray, List.getElem?_cons_succ, List.getElem?_cons_zero, List.setIfInBounds_toArray, List.set_cons_zero, List.set_cons_succ]
      refine wpQuiet_step (fun K hK => ?_)
      go_simp
      first | refine hK _ ?_ | refine ⟨_, fun _ _ => rfl, hK _ ?_⟩
      clear hK K
      try simp only [Act.put, List.getElem_toArray, List.getElem_cons_succ, List.getElem_cons_zero, List.getElem?_toArray, List.getElem?_cons_succ, List.getElem?_cons_zero, List.setIfInBounds_toArray, List.set_cons_zero, List.set_cons_succ]
      refine wpQuiet_step (fun K hK => ?_)
      go_simp
      first | refine hK _ ?_ | refine ⟨_, fun _ _ => rfl, hK _ ?_⟩
      clear hK K
      try simp only [Act.put, List.getElem_toArray, List.getElem_cons_succ, List.getElem_cons_zero, List.getElem?_toArray, List.getElem?_cons_succ, List.getElem?_cons_zero, List.setIfInBounds_toArray, List.set_cons_zero, List.set_cons_succ]
      refine wpQuiet_step (fun K hK => ?_)
      go_simp
      first | refine hK _ ?_ | refine ⟨_, fun _ _ => rfl, hK _ ?_⟩
      clear hK K
      try simp only [Act.put, List.getElem_toArray, List.getElem_cons_succ, List.getElem_cons_zero, List.getElem?_toArray, List.getElem?_cons_succ, List.getElem?_cons_zero, List.setIfInBounds_toArray, List.set_cons_zero, List.set_cons_succ]
      refine wpQuiet_step (fun K hK => ?_)
      refine if_pos_mpr (by kernel_rfl) ⟨.slice au m cu, fun Y hY => ?_, hK _ ?_⟩
      · have cY := HC3.out Y hY
        go_simp
      clear hK K
      try simp only [Act.put, List.getElem_toArray, List.getElem_cons_succ, List.getElem_cons_zero, List.getElem?_toArray, List.getElem?_cons_succ, List.getElem?_cons_zero, List.setIfInBounds_toArray, List.set_cons_zero, List.set_cons_succ]
      refine wpQuiet_step (fun K hK => ?_)
      go_simp
      first | refine hK _ ?_ | refine ⟨_, fun _ _ => rfl, hK _ ?_⟩
      clear hK K
      try simp only [Act.put, List.getElem_toArray, List.getElem_cons_succ, List.getElem_cons_zero, List.getElem?_toArray, List.getElem?_cons_succ, List.getElem?_cons_zero, List.setIfInBounds_toArray, List.set_cons_zero, List.set_cons_succ]
      refine wpQuiet_step (fun K hK => ?_)
      go_simp
      first | refine hK _ ?_ | refine ⟨_, fun _ _ => rfl, hK _ ?_⟩
      clear hK K
      try simp only [Act.put, List.getElem_toArray, List.getElem_cons_succ, List.getElem_cons_zero, List.getElem?_toArray, List.getElem?_cons_succ, List.getElem?_cons_zero, List.setIfInBounds_toArray, List.set_cons_zero, List.set_cons_succ]
      refine wpQuiet_step (fun K hK => ?_)
      go_simp
      first | refine hK _ ?_ | refine ⟨_, fun _ _ => rfl, hK _ ?_⟩
      clear hK K
      try simp only [Act.put, List.getElem_toArray, List.getElem_cons_succ, List.getElem_cons_zero, List.getElem?_toArray, List.getElem?_cons_succ, List.getElem?_cons_zero, List.setIfInBounds_toArray, List.set_cons_zero, List.set_cons_succ]
      intro w9 h9
      have H9 : Hid (Below W.heap.size W w9) := h9
      clear h9 HPB HC1 HC2 HC3
      go_wp2_with fail
      go_roundw
      case rel => exact ⟨i + 1, HI.out.1, by rw [wrapS HI.out.1 (by have := HI.out.2; unfold maxLen; omega)]; exact congrArg (Value.int .i64) (by omega), H9.out⟩
      case measure => exact measS HI.out.1 (by have := HI.out.2; unfold maxLen; omega)
    · have b1 : ¬ (i : Int) < (n : Int) := by omega
      clear hi
      go_wp2
      go_ret
      exact ⟨rfl, HPB.out⟩
end Go.Proofs.Ytgfamcadgahiiaa
namespace Go.Proofs.Ytgfamcadgahiiaa
set_option linter.unusedSimpArgs false
set_option linter.unusedVariables false
open Go.ChangeShapes Go.WideShapes Go.ChangeAt Go.RowKit Go.Pin Go.Prm
theorem put_comm (a : Act) {d e : Nat} (v u : Value) (h : d ≠ e) : (a.put (some d) v).put (some e) u = (a.put (some e) u).put (some d) v := by
  simp only [Act.put]
  rw [Array.setIfInBounds_comm _ _ h]
section
variable {P : Program} {ops : Array Oper} {Q : Exit → Act → World → Prop} {S : World → Prop} {fuel : Nat} {listed : Array Bool} {a : Act} {w : World}
/-- two may come up -/
theorem readyH2 {i j : Nat} {op oq : Op} {d e : Option Nat} (hi : opIs ops i op d) (hj : opIs ops j oq e) (hr : Region.ready .any ops listed = [i, j])
    (h1 : ∀ o : Oper, o.op = op → o.dst = d → Oper.wp P o a w (fun a' w' => S w' ∧ wpAnyH P .any ops Q S fuel (listed.setIfInBounds i true) a' w') Q)
    (h2 : ∀ o : Oper, o.op = oq → o.dst = e → Oper.wp P o a w (fun a' w' => S w' ∧ wpAnyH P .any ops Q S fuel (listed.setIfInBounds j true) a' w') Q) : wpAnyH P .any ops Q S (fuel + 1) listed a w := by
  obtain ⟨o1, k1, g1, p1, q1⟩ := hi.get
  obtain ⟨o2, k2, g2, p2, q2⟩ := hj.get
  refine wpAnyH_all hr (by simp) (fun k hk => ?_)
  simp only [List.mem_cons, List.not_mem_nil, or_false] at hk
  rcases hk with rfl | rfl
  · unfold wpOp
    simp only [k1]
    rw [if_pos (wanted_none g1 _)]
    exact .inl (h1 o1 p1 q1)
  · unfold wpOp
    simp only [k2]
    rw [if_pos (wanted_none g2 _)]
    exact .inl (h2 o2 p2 q2)
end
theorem freeze_at {w : World} {g k : Nat} {C : Array Value} {e : TypeId} (h : w.heap[g]? = some (.cells C e)) : (w.freeze ⟨g, k, none⟩ 1).heap[g]? = some (.cells C e (k, k + 1)) := by
  unfold World.freeze
  rw [if_neg (by decide)]
  simp [Array.getElem?_modify, h]
theorem freeze_grow (w : World) (g k : Nat) : Grow (fun x => x = g) w (w.freeze ⟨g, k, none⟩ 1) := by
  unfold World.freeze
  rw [if_neg (by decide)]
  refine ⟨rfl, rfl, rfl, by simp, fun x hx hn => ?_⟩
  have : ¬ g = x := fun e => hn e.symm
  simp [Array.getElem?_modify, this]
theorem run_convM {a : Act} {o : Oper} {x : Operand} {w : World} {g n c : Nat} {C : Array Value} (ho : o.op = .convert 30 30 x) (he : a.eval x = .slice (some ⟨g, 0, none⟩) n c) (hg : w.heap[g]? = some (.cells C 5)) : (execOp a.eval o).run Try.prog w = .ok (.value (.slice (some ⟨g, 0, none⟩) n c)) (w.freeze ⟨g, C.size, none⟩ 1) := by
  have hsh : w.shape? g = some (5, C.size) := by unfold World.shape?; rw [hg]
  unfold execOp
  simp only [ho, he]
  simp [convert, run_underlying Try.underlying30, run_underlying Try.underlying5, markStringish, hsh]
  try rfl
theorem run_bsL {a : Act} {o : Oper} {x : Operand} {v : Value} (ho : o.op = .buildSlice 48 1 #[(0, x)]) (he : a.eval x = v) {ad : Option Addr} {n c : Nat} (hv : v = .slice ad n c) (w : World) : (execOp a.eval o).run Try.prog w = .ok (.value (.slice (some ⟨w.heap.size, 0, none⟩) 1 1)) (w.alloc (.cells #[v] 30)) := by
  subst hv
  unfold execOp
  simp only [ho]
  have e : (Array.map (fun (x : Nat × Operand) => (x.fst, a.eval x.snd)) #[(0, x)]) = #[(0, .slice ad n c)] := by simp [he]
  rw [e]
  go_simp
/-! the key 0, 1, 2 .. -/
def kl (m : Nat) : List Int := (List.range 32).map fun p => if p < m then (p : Int) else 0
theorem kl_len (m : Nat) : (kl m).length = 32 := by simp [kl]
theorem kl_byt (m : Nat) : Byt (kl m) := fun x hx => by
  simp only [kl, List.mem_map, List.mem_range] at hx
  obtain ⟨p, hp, rfl⟩ := hx
  split <;> omega
theorem kl_key (m : Nat) : Key32 (kl m) := ⟨kl_len m, kl_byt m⟩
theorem kl_set : ∀ m : Fin 32, (kl m).set m (m : Nat) = kl (m + 1) := by decide +kernel
theorem zero32_lit : VI .u8 (kl 0) = #[.int .u8 0, .int .u8 0, .int .u8 0, .int .u8 0, .int .u8 0, .int .u8 0, .int .u8 0, .int .u8 0, .int .u8 0, .int .u8 0, .int .u8 0, .int .u8 0, .int .u8 0, .int .u8 0, .int .u8 0, .int .u8 0, .int .u8 0, .int .u8 0, .int .u8 0, .int .u8 0, .int .u8 0, .int .u8 0, .int .u8 0, .int .u8 0, .int .u8 0, .int .u8 0, .int .u8 0, .int .u8 0, .int .u8 0, .int .u8 0, .int .u8 0, .int .u8 0] := rfl
set_option maxRecDepth 100000 in
set_option maxHeartbeats 4000000 in
theorem counted_any (W : World) : Calls Try.prog 47 #[] W fun e w' => e = .returned (.agg (VI .u8 (kl 32))) ∧ Below W.heap.size W w' := by
  have h0 := ((ev_nil' W).new (.cells (VI .u8 (kl 0)) 23)).new (.cells (VI .u8 (kl 0)) 23)
  obtain ⟨q, hq⟩ : ∃ q, W.heap.size = q := ⟨_, rfl⟩
  simp only [size_alloc, hq] at h0
  obtain ⟨V0, hV0⟩ : ∃ V, W.alloc (.cells (VI .u8 (kl 0)) 23) = V := ⟨_, rfl⟩
  obtain ⟨W0, hW0⟩ : ∃ V, V0.alloc (.cells (VI .u8 (kl 0)) 23) = V := ⟨_, rfl⟩
  have hsV : V0.heap.size = q + 1 := by rw [← hV0, size_alloc, hq]
  rw [hV0, hW0] at h0
  rw [zero32_lit] at hV0 hW0
  have H0 : Hid (Ev q W (.pointer none) [] [(q + 1, .cells (VI .u8 (kl 0)) 23), (q, .cells (VI .u8 (kl 0)) 23)] W0) := h0
  have HS : Hid (V0.heap.size = q + 1 ∧ W.heap.size = q) := ⟨hsV, hq⟩
  have HX : Hid (∀ m w', m < 32 → Ev q W (.pointer none) [] [(q + 1, .cells (VI .u8 (kl m)) 23), (q, .cells (VI .u8 (kl 0)) 23)] w' → (∃ x : Int, w'.cell? ⟨q + 1, m, none⟩ = some (.int .u8 x)) ∧ w'.frozen? ⟨q + 1, m, none⟩ = false ∧ Ev q W (.pointer none) [] [(q + 1, .cells (VI .u8 (kl (m + 1))) 23), (q, .cells (VI .u8 (kl 0)) 23)] (w'.setCell ⟨q + 1, m, none⟩ (.int .u8 (m : Int)))) := fun m w' hm h => by
    have hr := h.row mem0
    refine ⟨⟨_, by rw [cell_of_row w' _ _ _ _ _ hr, VI_at _ _ _ (by rw [kl_len]; exact hm)]⟩, frozen_of_row w' _ _ _ _ hr, ?_⟩
    refine h.set rfl (fun p hp => by rw [List.mem_singleton.1 hp]; show q ≠ q + 1; omega) ((Grow.refl (fun k => k = q + 1) w').setCell (p := ⟨q + 1, m, none⟩) (.inl rfl) _) ?_
    rw [heap_setCell_same w' _ _ _ _ _ hr]
    have := kl_set ⟨m, hm⟩
    simp only at this
    rw [← this]
    simp [VI]
  have HI : Hid ((Try.prog.info? 23).map (·.size) = some (kl 32).length) := infoK
  clear h0 hsV
  go_enter Try.func47, Try.ntmps47
  rw [HS.out.2]
  go_wp2
  rw [HS.out.1]
  go_loopw [2] (fun v w' => ∃ m : Nat, m ≤ 32 ∧ v = .int .i64 (m : Int) ∧ Ev q W (.pointer none) [] [(q + 1, .cells (VI .u8 (kl m)) 23), (q, .cells (VI .u8 (kl 0)) 23)] w') (fun v _ => 32 - (intOf v).toNat)
  case atStart => exact ⟨0, Nat.zero_le _, rfl, H0.out⟩
  case round =>
    clear H0 hW0 hV0
    obtain ⟨m, hm, rfl, hp⟩ := hrel
    by_cases hlt : m < 32
    · obtain ⟨⟨x, c1⟩, f1, h1⟩ := HX.out m wr hlt hp
      have b1 : (m : Int) < 32 := by omega
      have e1 : IntKind.u8.wrap (m : Int) = (m : Int) := by rw [IntKind.wrap_u8']; omega
      have H1 : Hid _ := h1
      clear h1 hp HX
      go_wp2
      go_roundw
      case rel => exact ⟨m + 1, by omega, by go_num, H1.out⟩
      case measure => simp only [intOf]; omega
    · have hm' : m = 32 := by omega
      have b1 : ¬ (m : Int) < 32 := by omega
      rw [hm'] at hp
      have HP : Hid (Ev q W (.pointer none) [] [(q + 1, .cells (VI .u8 (kl 32)) 23), (q, .cells (VI .u8 (kl 0)) 23)] wr) := hp
      have HLD : Hid (wr.rangeAt (q + 1) 0 ((kl 32).map (Value.int .u8))) := row_range (hp.row mem0)
      clear hp HX hm'
      go_wp2_with (with_reducible refine at_list ?_; first | (refine load_midI rfl 23 (.tmp 1) rfl (q + 1) 0 rfl .u8 (kl 32) _ HLD.out Try.underlying23 rfl HI.out ?_) | (refine hold_store 23 (.tmp 0) (.tmp 11) rfl ?_))
      have h3 := HP.out.flip
      have ht3 := row_there (h3.row mem0)
      refine store_rowI rfl 23 (.tmp 0) (.tmp 11) rfl q .u8 (kl 32) rfl rfl ht3 HI.out rfl ?_
      have h4 := h3.storeRow (L' := kl 32) (fun p hp => by rw [List.mem_singleton.1 hp]; show q + 1 ≠ q; omega) rfl
      obtain ⟨W5, hW5⟩ : ∃ V, wr.setCells q 0 (VI .u8 (kl 32)).toList = V := ⟨_, rfl⟩
      rw [hW5] at h4 ⊢
      have H5 : Hid (Below q W W5) := h4.old
      have HR5 : Hid (W5.heap[q]? = some (.cells (VI .u8 (kl 32)) 23)) := h4.row mem0
      have HI5 : Hid ((Try.prog.info? 23).map (·.size) = some (VI .u8 (kl 32)).size) := infoK
      clear h4 h3 ht3 hW5
      go_wp2
      refine bodyPost_ret (v := .agg (VI .u8 (kl 32))) ?_ rfl ⟨rfl, H5.out⟩
      exact results_cell_row (P := Try.prog) (fn := Try.f47) (p := 0) (ty := 23) rfl _ _ q 23 (VI .u8 (kl 32)) (0, 0) _ rfl HR5.out Try.underlying23 rfl HI5.out
end Go.Proofs.Ytgfamcadgahiiaa
namespace Go.Proofs.Ytgfamcadgahiiaa
set_option linter.unusedSimpArgs false
set_option linter.unusedVariables false
open Go.ChangeShapes Go.WideShapes Go.ChangeAt Go.RowKit Go.Pin Go.Prm
def kr : List Int := [107, 101, 101, 108, 32, 97, 110, 100, 32, 114, 117, 100, 100, 101, 114]
theorem kr_byt : Byt kr := by decide
def kR : List Int := [107, 101, 101, 108, 32, 97, 110, 100, 32, 82, 117, 100, 100, 101, 114]
theorem kR_byt : Byt kR := by decide
theorem run_Kn9 {a : Act} {o : Oper} (ho : o.op = .buildSlice 30 15 #[(0, .const (.int .u8 107)), (1, .const (.int .u8 101)), (2, .const (.int .u8 101)), (3, .const (.int .u8 108)), (4, .const (.int .u8 32)), (5, .const (.int .u8 97)), (6, .const (.int .u8 110)), (7, .const (.int .u8 100)), (8, .const (.int .u8 32)), (9, .const (.int .u8 114)), (10, .const (.int .u8 117)), (11, .const (.int .u8 100)), (12, .const (.int .u8 100)), (13, .const (.int .u8 101)), (14, .const (.int .u8 114))]) (w : World) : (execOp a.eval o).run Try.prog w = .ok (.value (.slice (some ⟨w.heap.size, 0, none⟩) 15 15)) (w.alloc (.cells (VI .u8 kr) 5)) := by
  unfold execOp
  simp only [ho]
  go_simp
  try rfl
noncomputable def rgKn9 : Code := ((Try.f21.body.bind (findReg 9)).getD .skip)
noncomputable def opKn9 : Array Oper := opsOf rgKn9
theorem rgKn9_is : rgKn9 = .region 9 opKn9 true := by kernel_rfl
theorem opKn9_ns : Region.noSelect opKn9 = true := by kernel_rfl
theorem opKn9_0 : opIs opKn9 0 (.call { callee := .value (.func 47), args := #[], argTypes := #[] }) (some 28) := by unfold opIs; kernel_rfl
theorem opKn9_1 : opIs opKn9 1 (.load 36 (.tmp 2)) (some 29) := by unfold opIs; kernel_rfl
theorem opKn9_2 : opIs opKn9 2 (.buildSlice 30 15 #[(0, .const (.int .u8 107)), (1, .const (.int .u8 101)), (2, .const (.int .u8 101)), (3, .const (.int .u8 108)), (4, .const (.int .u8 32)), (5, .const (.int .u8 97)), (6, .const (.int .u8 110)), (7, .const (.int .u8 100)), (8, .const (.int .u8 32)), (9, .const (.int .u8 114)), (10, .const (.int .u8 117)), (11, .const (.int .u8 100)), (12, .const (.int .u8 100)), (13, .const (.int .u8 101)), (14, .const (.int .u8 114))]) (some 30) := by unfold opIs; kernel_rfl
theorem opKn9_3 : opIs opKn9 3 (.convert 30 30 (.tmp 30)) (some 31) := by unfold opIs; kernel_rfl
theorem opKn9_4 : opIs opKn9 4 (.buildSlice 48 1 #[(0, .tmp 31)]) (some 32) := by unfold opIs; kernel_rfl
theorem opKn9_5 : opIs opKn9 5 (.call { callee := .value (.func 29), args := #[.const (.pointer none), .tmp 28, .tmp 29, .tmp 32], argTypes := #[25, 23, 36, 48] }) (some 33) := by unfold opIs; kernel_rfl
theorem opKn9_6 : opIs opKn9 6 (.assign (.tmp 33)) (some 6) := by unfold opIs; kernel_rfl
set_option maxRecDepth 100000 in
set_option maxHeartbeats 4000000 in
theorem Kn9 {Q : Exit → Act → World → Prop} {B : Nat} {w W : World} {bx : List (Nat × Obj)} {p2 : Nat} {tg : List Int} {a0 : Act} (ht : Tag16 tg) (h0 : Ev B w (.pointer none) [] bx W) (HS : ∀ Y, Ev B w (.pointer none) [] bx Y → Y.rangeAt p2 0 (tg.map (Value.int .u8))) (sz : a0.tmps.size = 70) (e2 : a0.eval (.tmp 2) = .pointer (some ⟨p2, 0, none⟩))
    (HPN : ∀ c (a : Act) d v w, Q (.panic c) (a.put d v) w → Q (.panic c) a w)
    (H : ∀ g1 g2 Y, Ev B w (.pointer none) [] bx Y → Q .normal (((((((a0.put (some 29) (.agg (VI .u8 tg))).put (some 30) (.slice (some ⟨g1, 0, none⟩) 15 15)).put (some 31) (.slice (some ⟨g1, 0, none⟩) 15 15)).put (some 32) (.slice (some ⟨g2, 0, none⟩) 1 1)).put (some 28) (.agg (VI .u8 (kl 32)))).put (some 33) (.bool (decide (mtag (kl 32) kr = tg)))).put (some 6) (.bool (decide (mtag (kl 32) kr = tg)))) Y) :
    Code.wp Try.prog rgKn9 Q a0 W := by
  have hS : ∀ k Y, Ev B w (.pointer none) [] k Y → (∀ p ∈ bx, p ∈ k) → Y.rangeAt p2 0 (tg.map (Value.int .u8)) := fun k Y h hs => HS Y (h.sub hs)
  have L14 : ∀ g1 g2 Y, (Ev B w (.pointer none) [] ((g2, .cells #[.slice (some ⟨g1, 0, none⟩) 15 15] 30) :: (g1, .cells (VI .u8 kr) 5 (15, 16)) :: bx) Y) → wpAnyH Try.prog .any opKn9 Q (fun Y : World => Y.rangeAt p2 0 (tg.map (Value.int .u8))) 2 #[true, true, true, true, true, false, false] (((((a0.put (some 29) (.agg (VI .u8 tg))).put (some 30) (.slice (some ⟨g1, 0, none⟩) 15 15)).put (some 31) (.slice (some ⟨g1, 0, none⟩) 15 15)).put (some 32) (.slice (some ⟨g2, 0, none⟩) 1 1)).put (some 28) (.agg (VI .u8 (kl 32)))) Y := fun g1 g2 Y h => by
    have q0 : (((((a0.put (some 29) (.agg (VI .u8 tg))).put (some 30) (.slice (some ⟨g1, 0, none⟩) 15 15)).put (some 31) (.slice (some ⟨g1, 0, none⟩) 15 15)).put (some 32) (.slice (some ⟨g2, 0, none⟩) 1 1)).put (some 28) (.agg (VI .u8 (kl 32)))).eval (.tmp 28) = .agg (VI .u8 (kl 32)) := eval_put_eq _ _ _ (by simp only [size_put, sz]; decide)
    have q1 : (((((a0.put (some 29) (.agg (VI .u8 tg))).put (some 30) (.slice (some ⟨g1, 0, none⟩) 15 15)).put (some 31) (.slice (some ⟨g1, 0, none⟩) 15 15)).put (some 32) (.slice (some ⟨g2, 0, none⟩) 1 1)).put (some 28) (.agg (VI .u8 (kl 32)))).eval (.tmp 29) = .agg (VI .u8 tg) := by rw [eval_put_ne _ _ _ _ (by decide), eval_put_ne _ _ _ _ (by decide), eval_put_ne _ _ _ _ (by decide), eval_put_ne _ _ _ _ (by decide)]; exact eval_put_eq _ _ _ (by rw [sz]; decide)
    have q2 : (((((a0.put (some 29) (.agg (VI .u8 tg))).put (some 30) (.slice (some ⟨g1, 0, none⟩) 15 15)).put (some 31) (.slice (some ⟨g1, 0, none⟩) 15 15)).put (some 32) (.slice (some ⟨g2, 0, none⟩) 1 1)).put (some 28) (.agg (VI .u8 (kl 32)))).eval (.tmp 32) = .slice (some ⟨g2, 0, none⟩) 1 1 := by rw [eval_put_ne _ _ _ _ (by decide)]; exact eval_put_eq _ _ _ (by simp only [size_put, sz]; decide)
    have hP : PSrc B w ((g2, .cells #[.slice (some ⟨g1, 0, none⟩) 15 15] 30) :: (g1, .cells (VI .u8 kr) 5 (15, 16)) :: bx) (some ⟨g2, 0, none⟩) 1 [kr] := ⟨⟨rfl, by decide⟩, fun j hj => by
      obtain rfl : j = 0 := by omega
      exact ⟨g2, 0, .slice (some ⟨g1, 0, none⟩) 15 15, rfl, fun Z _ hq => by rw [cell_of_row Z _ _ _ _ _ (hq _ mem0)]; rfl, src_box (L := kr) mem1 0 15 15 (by decide) (by decide)⟩⟩
    refine readyH opKn9_5 (by kernel_rfl) (fun o ho hd => wpCall (v := .bool (decide (mtag (kl 32) kr = tg))) ho hd (args := #[.pointer none, .agg (VI .u8 (kl 32)), .agg (VI .u8 tg), .slice (some ⟨g2, 0, none⟩) 1 1]) (by simp only [List.map_toArray, List.map_cons, List.map_nil, q0, q1, q2] <;> rfl) (fun _ => rfl) ((check_any h (kl_key 32) ht hP (by intro D hD; rw [List.mem_singleton.1 hD]; exact kr_byt) (fun _ => by decide)).mono (fun e w' hh => ⟨by rw [hh.1]; simp, hh.2⟩)) (fun w' hw' => ?_))
    have hn := hw'.nilOf []
    refine ⟨hS _ _ hn (fun p hp => memr2 hp), ?_⟩
    refine wpAnyH_as (l' := #[true, true, true, true, true, true, false]) (by kernel_rfl) ?_
    have q3 : ((((((a0.put (some 29) (.agg (VI .u8 tg))).put (some 30) (.slice (some ⟨g1, 0, none⟩) 15 15)).put (some 31) (.slice (some ⟨g1, 0, none⟩) 15 15)).put (some 32) (.slice (some ⟨g2, 0, none⟩) 1 1)).put (some 28) (.agg (VI .u8 (kl 32)))).put (some 33) (.bool (decide (mtag (kl 32) kr = tg)))).eval (.tmp 33) = .bool (decide (mtag (kl 32) kr = tg)) := eval_put_eq _ _ _ (by simp only [size_put, sz]; decide)
    refine readyH opKn9_6 (by kernel_rfl) (fun o ho hd => wpRun (v := .bool (decide (mtag (kl 32) kr = tg))) (w' := w') hd (run_assign ho q3 w') ⟨hS _ _ hn (fun p hp => memr2 hp), ?_⟩)
    refine wpAnyH_as (l' := #[true, true, true, true, true, true, true]) (by kernel_rfl) ?_
    exact wpAnyH_done (by kernel_rfl) (H g1 g2 w' (hn.sub (fun p hp => memr2 hp))) _
  have L13 : ∀ g1 : Nat, ∀ Y, (Ev B w (.pointer none) [] ((g1, .cells (VI .u8 kr) 5 (15, 16)) :: bx) Y ∧ ∀ p ∈ bx, p.1 ≠ g1) → wpAnyH Try.prog .any opKn9 Q (fun Y : World => Y.rangeAt p2 0 (tg.map (Value.int .u8))) 3 #[true, true, true, true, false, false, false] ((((a0.put (some 29) (.agg (VI .u8 tg))).put (some 30) (.slice (some ⟨g1, 0, none⟩) 15 15)).put (some 31) (.slice (some ⟨g1, 0, none⟩) 15 15)).put (some 28) (.agg (VI .u8 (kl 32)))) Y := fun g1 Y h => by
    have QE : ((((a0.put (some 29) (.agg (VI .u8 tg))).put (some 30) (.slice (some ⟨g1, 0, none⟩) 15 15)).put (some 31) (.slice (some ⟨g1, 0, none⟩) 15 15)).put (some 28) (.agg (VI .u8 (kl 32)))).eval (.tmp 31) = .slice (some ⟨g1, 0, none⟩) 15 15 := by rw [eval_put_ne _ _ _ _ (by decide)]; exact eval_put_eq _ _ _ (by simp only [size_put, sz]; decide)
    refine readyH opKn9_4 (by kernel_rfl) (fun o ho hd => wpRun (v := .slice (some ⟨Y.heap.size, 0, none⟩) 1 1) (w' := Y.alloc (.cells #[.slice (some ⟨g1, 0, none⟩) 15 15] 30)) hd (run_bsL ho QE rfl Y) ?_)
    have hn := h.1.new (.cells #[.slice (some ⟨g1, 0, none⟩) 15 15] 30)
    refine ⟨hS _ _ hn (fun p hp => memr2 hp), ?_⟩
    refine wpAnyH_as (l' := #[true, true, true, true, true, false, false]) (by kernel_rfl) ?_
    rw [put_comm _ _ _ (by decide)]
    exact L14 g1 Y.heap.size _ hn
  have L12 : ∀ g1 : Nat, ∀ Y, (Ev B w (.pointer none) [] ((g1, .cells (VI .u8 kr) 5) :: bx) Y ∧ ∀ p ∈ bx, p.1 ≠ g1) → wpAnyH Try.prog .any opKn9 Q (fun Y : World => Y.rangeAt p2 0 (tg.map (Value.int .u8))) 4 #[true, true, true, false, false, false, false] (((a0.put (some 29) (.agg (VI .u8 tg))).put (some 30) (.slice (some ⟨g1, 0, none⟩) 15 15)).put (some 28) (.agg (VI .u8 (kl 32)))) Y := fun g1 Y h => by
    have QE : (((a0.put (some 29) (.agg (VI .u8 tg))).put (some 30) (.slice (some ⟨g1, 0, none⟩) 15 15)).put (some 28) (.agg (VI .u8 (kl 32)))).eval (.tmp 30) = .slice (some ⟨g1, 0, none⟩) 15 15 := by rw [eval_put_ne _ _ _ _ (by decide)]; exact eval_put_eq _ _ _ (by simp only [size_put, sz]; decide)
    refine readyH opKn9_3 (by kernel_rfl) (fun o ho hd => wpRun (v := .slice (some ⟨g1, 0, none⟩) 15 15) (w' := Y.freeze ⟨g1, (VI .u8 kr).size, none⟩ 1) hd (run_convM ho QE (h.1.row mem0)) ?_)
    have hn : Ev B w (.pointer none) [] ((g1, .cells (VI .u8 kr) 5 (15, 16)) :: bx) (Y.freeze ⟨g1, (VI .u8 kr).size, none⟩ 1) := h.1.set rfl h.2 (freeze_grow Y g1 _) (freeze_at (h.1.row mem0))
    refine ⟨hS _ _ hn (fun p hp => memr1 hp), ?_⟩
    refine wpAnyH_as (l' := #[true, true, true, true, false, false, false]) (by kernel_rfl) ?_
    rw [put_comm _ _ _ (by decide)]
    exact L13 g1 _ ⟨hn, h.2⟩
  have L10 : ∀ Y, (Ev B w (.pointer none) [] bx Y) → wpAnyH Try.prog .any opKn9 Q (fun Y : World => Y.rangeAt p2 0 (tg.map (Value.int .u8))) 5 #[true, true, false, false, false, false, false] ((a0.put (some 29) (.agg (VI .u8 tg))).put (some 28) (.agg (VI .u8 (kl 32)))) Y := fun  Y h => by
    refine readyH opKn9_2 (by kernel_rfl) (fun o ho hd => wpRun (v := .slice (some ⟨Y.heap.size, 0, none⟩) 15 15) (w' := Y.alloc (.cells (VI .u8 kr) 5)) hd (run_Kn9 ho Y) ?_)
    have hn := h.new (.cells (VI .u8 kr) 5)
    refine ⟨hS _ _ hn (fun p hp => memr1 hp), ?_⟩
    refine wpAnyH_as (l' := #[true, true, true, false, false, false, false]) (by kernel_rfl) ?_
    rw [put_comm _ _ _ (by decide)]
    exact L12 Y.heap.size _ ⟨hn, fun p hp => by have := heap_lt (h.at' p hp); omega⟩
  have L04 : ∀ g1 g2 : Nat, ∀ Y, (Ev B w (.pointer none) [] ((g2, .cells #[.slice (some ⟨g1, 0, none⟩) 15 15] 30) :: (g1, .cells (VI .u8 kr) 5 (15, 16)) :: bx) Y) → wpAnyH Try.prog .any opKn9 Q (fun Y : World => Y.rangeAt p2 0 (tg.map (Value.int .u8))) 3 #[false, true, true, true, true, false, false] ((((a0.put (some 29) (.agg (VI .u8 tg))).put (some 30) (.slice (some ⟨g1, 0, none⟩) 15 15)).put (some 31) (.slice (some ⟨g1, 0, none⟩) 15 15)).put (some 32) (.slice (some ⟨g2, 0, none⟩) 1 1)) Y := fun g1 g2 Y h => by
    refine readyH opKn9_0 (by kernel_rfl) (fun o ho hd => wpCall (v := .agg (VI .u8 (kl 32))) ho hd (args := #[]) (by simp) (fun _ => rfl) (counted_any Y) (fun w' hw' => ?_))
    refine ⟨hS _ _ (h.below hw') (fun p hp => memr2 hp), ?_⟩
    refine wpAnyH_as (l' := #[true, true, true, true, true, false, false]) (by kernel_rfl) ?_
    exact L14 g1 g2 _ (h.below hw')
  have L03 : ∀ g1 : Nat, ∀ Y, (Ev B w (.pointer none) [] ((g1, .cells (VI .u8 kr) 5 (15, 16)) :: bx) Y ∧ ∀ p ∈ bx, p.1 ≠ g1) → wpAnyH Try.prog .any opKn9 Q (fun Y : World => Y.rangeAt p2 0 (tg.map (Value.int .u8))) 4 #[false, true, true, true, false, false, false] (((a0.put (some 29) (.agg (VI .u8 tg))).put (some 30) (.slice (some ⟨g1, 0, none⟩) 15 15)).put (some 31) (.slice (some ⟨g1, 0, none⟩) 15 15)) Y := fun g1 Y h => by
    have QE : (((a0.put (some 29) (.agg (VI .u8 tg))).put (some 30) (.slice (some ⟨g1, 0, none⟩) 15 15)).put (some 31) (.slice (some ⟨g1, 0, none⟩) 15 15)).eval (.tmp 31) = .slice (some ⟨g1, 0, none⟩) 15 15 := eval_put_eq _ _ _ (by simp only [size_put, sz]; decide)
    refine readyH2 opKn9_0 opKn9_4 (by kernel_rfl) (fun o ho hd => wpCall (v := .agg (VI .u8 (kl 32))) ho hd (args := #[]) (by simp) (fun _ => rfl) (counted_any Y) (fun w' hw' => ?_)) (fun o ho hd => wpRun (v := .slice (some ⟨Y.heap.size, 0, none⟩) 1 1) (w' := Y.alloc (.cells #[.slice (some ⟨g1, 0, none⟩) 15 15] 30)) hd (run_bsL ho QE rfl Y) ?_)
    · refine ⟨hS _ _ (h.1.below hw') (fun p hp => memr1 hp), ?_⟩
      refine wpAnyH_as (l' := #[true, true, true, true, false, false, false]) (by kernel_rfl) ?_
      exact L13 g1 _ (⟨h.1.below hw', h.2⟩)
    · have hn := h.1.new (.cells #[.slice (some ⟨g1, 0, none⟩) 15 15] 30)
      refine ⟨hS _ _ hn (fun p hp => memr2 hp), ?_⟩
      refine wpAnyH_as (l' := #[false, true, true, true, true, false, false]) (by kernel_rfl) ?_
      exact L04 g1 Y.heap.size _ hn
  have L02 : ∀ g1 : Nat, ∀ Y, (Ev B w (.pointer none) [] ((g1, .cells (VI .u8 kr) 5) :: bx) Y ∧ ∀ p ∈ bx, p.1 ≠ g1) → wpAnyH Try.prog .any opKn9 Q (fun Y : World => Y.rangeAt p2 0 (tg.map (Value.int .u8))) 5 #[false, true, true, false, false, false, false] ((a0.put (some 29) (.agg (VI .u8 tg))).put (some 30) (.slice (some ⟨g1, 0, none⟩) 15 15)) Y := fun g1 Y h => by
    have QE : ((a0.put (some 29) (.agg (VI .u8 tg))).put (some 30) (.slice (some ⟨g1, 0, none⟩) 15 15)).eval (.tmp 30) = .slice (some ⟨g1, 0, none⟩) 15 15 := eval_put_eq _ _ _ (by simp only [size_put, sz]; decide)
    refine readyH2 opKn9_0 opKn9_3 (by kernel_rfl) (fun o ho hd => wpCall (v := .agg (VI .u8 (kl 32))) ho hd (args := #[]) (by simp) (fun _ => rfl) (counted_any Y) (fun w' hw' => ?_)) (fun o ho hd => wpRun (v := .slice (some ⟨g1, 0, none⟩) 15 15) (w' := Y.freeze ⟨g1, (VI .u8 kr).size, none⟩ 1) hd (run_convM ho QE (h.1.row mem0)) ?_)
    · refine ⟨hS _ _ (h.1.below hw') (fun p hp => memr1 hp), ?_⟩
      refine wpAnyH_as (l' := #[true, true, true, false, false, false, false]) (by kernel_rfl) ?_
      exact L12 g1 _ (⟨h.1.below hw', h.2⟩)
    · have hn : Ev B w (.pointer none) [] ((g1, .cells (VI .u8 kr) 5 (15, 16)) :: bx) (Y.freeze ⟨g1, (VI .u8 kr).size, none⟩ 1) := h.1.set rfl h.2 (freeze_grow Y g1 _) (freeze_at (h.1.row mem0))
      refine ⟨hS _ _ hn (fun p hp => memr1 hp), ?_⟩
      refine wpAnyH_as (l' := #[false, true, true, true, false, false, false]) (by kernel_rfl) ?_
      exact L03 g1 _ ⟨hn, h.2⟩
  have L00 : ∀ Y, (Ev B w (.pointer none) [] bx Y) → wpAnyH Try.prog .any opKn9 Q (fun Y : World => Y.rangeAt p2 0 (tg.map (Value.int .u8))) 6 #[false, true, false, false, false, false, false] (a0.put (some 29) (.agg (VI .u8 tg))) Y := fun  Y h => by
    refine readyH2 opKn9_0 opKn9_2 (by kernel_rfl) (fun o ho hd => wpCall (v := .agg (VI .u8 (kl 32))) ho hd (args := #[]) (by simp) (fun _ => rfl) (counted_any Y) (fun w' hw' => ?_)) (fun o ho hd => wpRun (v := .slice (some ⟨Y.heap.size, 0, none⟩) 15 15) (w' := Y.alloc (.cells (VI .u8 kr) 5)) hd (run_Kn9 ho Y) ?_)
    · refine ⟨hS _ _ (h.below hw') (fun p hp => hp), ?_⟩
      refine wpAnyH_as (l' := #[true, true, false, false, false, false, false]) (by kernel_rfl) ?_
      exact L10  _ (h.below hw')
    · have hn := h.new (.cells (VI .u8 kr) 5)
      refine ⟨hS _ _ hn (fun p hp => memr1 hp), ?_⟩
      refine wpAnyH_as (l' := #[false, true, true, false, false, false, false]) (by kernel_rfl) ?_
      exact L02 Y.heap.size _ ⟨hn, fun p hp => by have := heap_lt (h.at' p hp); omega⟩
  rw [rgKn9_is]
  refine wp_region_held_drew (S := fun Y : World => Y.rangeAt p2 0 (tg.map (Value.int .u8))) (by kernel_rfl) (HS _ h0.drew) (fun hH => ?_)
  refine wpAnyH_as (l' := #[false, false, false, false, false, false, false]) (by kernel_rfl) ?_
  refine takeH (v := .agg (VI .u8 tg)) opKn9_1 opKn9_ns (by kernel_rfl) (by kernel_rfl) HPN (fun w hw o ho => run_ldT ht.len ho e2 w hw) hH ?_
  refine wpAnyH_as (l' := #[false, true, false, false, false, false, false]) (by kernel_rfl) ?_
  exact L00 _ h0.drew
theorem run_Kn10 {a : Act} {o : Oper} (ho : o.op = .buildSlice 30 15 #[(0, .const (.int .u8 107)), (1, .const (.int .u8 101)), (2, .const (.int .u8 101)), (3, .const (.int .u8 108)), (4, .const (.int .u8 32)), (5, .const (.int .u8 97)), (6, .const (.int .u8 110)), (7, .const (.int .u8 100)), (8, .const (.int .u8 32)), (9, .const (.int .u8 82)), (10, .const (.int .u8 117)), (11, .const (.int .u8 100)), (12, .const (.int .u8 100)), (13, .const (.int .u8 101)), (14, .const (.int .u8 114))]) (w : World) : (execOp a.eval o).run Try.prog w = .ok (.value (.slice (some ⟨w.heap.size, 0, none⟩) 15 15)) (w.alloc (.cells (VI .u8 kR) 5)) := by
  unfold execOp
  simp only [ho]
  go_simp
  try rfl
noncomputable def rgKn10 : Code := ((Try.f21.body.bind (findReg 10)).getD .skip)
noncomputable def opKn10 : Array Oper := opsOf rgKn10
theorem rgKn10_is : rgKn10 = .region 10 opKn10 true := by kernel_rfl
theorem opKn10_ns : Region.noSelect opKn10 = true := by kernel_rfl
theorem opKn10_0 : opIs opKn10 0 (.call { callee := .value (.func 47), args := #[], argTypes := #[] }) (some 34) := by unfold opIs; kernel_rfl
theorem opKn10_1 : opIs opKn10 1 (.load 36 (.tmp 2)) (some 35) := by unfold opIs; kernel_rfl
theorem opKn10_2 : opIs opKn10 2 (.buildSlice 30 15 #[(0, .const (.int .u8 107)), (1, .const (.int .u8 101)), (2, .const (.int .u8 101)), (3, .const (.int .u8 108)), (4, .const (.int .u8 32)), (5, .const (.int .u8 97)), (6, .const (.int .u8 110)), (7, .const (.int .u8 100)), (8, .const (.int .u8 32)), (9, .const (.int .u8 82)), (10, .const (.int .u8 117)), (11, .const (.int .u8 100)), (12, .const (.int .u8 100)), (13, .const (.int .u8 101)), (14, .const (.int .u8 114))]) (some 36) := by unfold opIs; kernel_rfl
theorem opKn10_3 : opIs opKn10 3 (.convert 30 30 (.tmp 36)) (some 37) := by unfold opIs; kernel_rfl
theorem opKn10_4 : opIs opKn10 4 (.buildSlice 48 1 #[(0, .tmp 37)]) (some 38) := by unfold opIs; kernel_rfl
theorem opKn10_5 : opIs opKn10 5 (.call { callee := .value (.func 29), args := #[.const (.pointer none), .tmp 34, .tmp 35, .tmp 38], argTypes := #[25, 23, 36, 48] }) (some 39) := by unfold opIs; kernel_rfl
theorem opKn10_6 : opIs opKn10 6 (.assign (.tmp 39)) (some 7) := by unfold opIs; kernel_rfl
set_option maxRecDepth 100000 in
set_option maxHeartbeats 4000000 in
theorem Kn10 {Q : Exit → Act → World → Prop} {B : Nat} {w W : World} {bx : List (Nat × Obj)} {p2 : Nat} {tg : List Int} {a0 : Act} (ht : Tag16 tg) (h0 : Ev B w (.pointer none) [] bx W) (HS : ∀ Y, Ev B w (.pointer none) [] bx Y → Y.rangeAt p2 0 (tg.map (Value.int .u8))) (sz : a0.tmps.size = 70) (e2 : a0.eval (.tmp 2) = .pointer (some ⟨p2, 0, none⟩))
    (HPN : ∀ c (a : Act) d v w, Q (.panic c) (a.put d v) w → Q (.panic c) a w)
    (H : ∀ g1 g2 Y, Ev B w (.pointer none) [] bx Y → Q .normal (((((((a0.put (some 35) (.agg (VI .u8 tg))).put (some 36) (.slice (some ⟨g1, 0, none⟩) 15 15)).put (some 37) (.slice (some ⟨g1, 0, none⟩) 15 15)).put (some 38) (.slice (some ⟨g2, 0, none⟩) 1 1)).put (some 34) (.agg (VI .u8 (kl 32)))).put (some 39) (.bool (decide (mtag (kl 32) kR = tg)))).put (some 7) (.bool (decide (mtag (kl 32) kR = tg)))) Y) :
    Code.wp Try.prog rgKn10 Q a0 W := by
  have hS : ∀ k Y, Ev B w (.pointer none) [] k Y → (∀ p ∈ bx, p ∈ k) → Y.rangeAt p2 0 (tg.map (Value.int .u8)) := fun k Y h hs => HS Y (h.sub hs)
  have L14 : ∀ g1 g2 Y, (Ev B w (.pointer none) [] ((g2, .cells #[.slice (some ⟨g1, 0, none⟩) 15 15] 30) :: (g1, .cells (VI .u8 kR) 5 (15, 16)) :: bx) Y) → wpAnyH Try.prog .any opKn10 Q (fun Y : World => Y.rangeAt p2 0 (tg.map (Value.int .u8))) 2 #[true, true, true, true, true, false, false] (((((a0.put (some 35) (.agg (VI .u8 tg))).put (some 36) (.slice (some ⟨g1, 0, none⟩) 15 15)).put (some 37) (.slice (some ⟨g1, 0, none⟩) 15 15)).put (some 38) (.slice (some ⟨g2, 0, none⟩) 1 1)).put (some 34) (.agg (VI .u8 (kl 32)))) Y := fun g1 g2 Y h => by
    have q0 : (((((a0.put (some 35) (.agg (VI .u8 tg))).put (some 36) (.slice (some ⟨g1, 0, none⟩) 15 15)).put (some 37) (.slice (some ⟨g1, 0, none⟩) 15 15)).put (some 38) (.slice (some ⟨g2, 0, none⟩) 1 1)).put (some 34) (.agg (VI .u8 (kl 32)))).eval (.tmp 34) = .agg (VI .u8 (kl 32)) := eval_put_eq _ _ _ (by simp only [size_put, sz]; decide)
    have q1 : (((((a0.put (some 35) (.agg (VI .u8 tg))).put (some 36) (.slice (some ⟨g1, 0, none⟩) 15 15)).put (some 37) (.slice (some ⟨g1, 0, none⟩) 15 15)).put (some 38) (.slice (some ⟨g2, 0, none⟩) 1 1)).put (some 34) (.agg (VI .u8 (kl 32)))).eval (.tmp 35) = .agg (VI .u8 tg) := by rw [eval_put_ne _ _ _ _ (by decide), eval_put_ne _ _ _ _ (by decide), eval_put_ne _ _ _ _ (by decide), eval_put_ne _ _ _ _ (by decide)]; exact eval_put_eq _ _ _ (by rw [sz]; decide)
    have q2 : (((((a0.put (some 35) (.agg (VI .u8 tg))).put (some 36) (.slice (some ⟨g1, 0, none⟩) 15 15)).put (some 37) (.slice (some ⟨g1, 0, none⟩) 15 15)).put (some 38) (.slice (some ⟨g2, 0, none⟩) 1 1)).put (some 34) (.agg (VI .u8 (kl 32)))).eval (.tmp 38) = .slice (some ⟨g2, 0, none⟩) 1 1 := by rw [eval_put_ne _ _ _ _ (by decide)]; exact eval_put_eq _ _ _ (by simp only [size_put, sz]; decide)
    have hP : PSrc B w ((g2, .cells #[.slice (some ⟨g1, 0, none⟩) 15 15] 30) :: (g1, .cells (VI .u8 kR) 5 (15, 16)) :: bx) (some ⟨g2, 0, none⟩) 1 [kR] := ⟨⟨rfl, by decide⟩, fun j hj => by
      obtain rfl : j = 0 := by omega
      exact ⟨g2, 0, .slice (some ⟨g1, 0, none⟩) 15 15, rfl, fun Z _ hq => by rw [cell_of_row Z _ _ _ _ _ (hq _ mem0)]; rfl, src_box (L := kR) mem1 0 15 15 (by decide) (by decide)⟩⟩
    refine readyH opKn10_5 (by kernel_rfl) (fun o ho hd => wpCall (v := .bool (decide (mtag (kl 32) kR = tg))) ho hd (args := #[.pointer none, .agg (VI .u8 (kl 32)), .agg (VI .u8 tg), .slice (some ⟨g2, 0, none⟩) 1 1]) (by simp only [List.map_toArray, List.map_cons, List.map_nil, q0, q1, q2] <;> rfl) (fun _ => rfl) ((check_any h (kl_key 32) ht hP (by intro D hD; rw [List.mem_singleton.1 hD]; exact kR_byt) (fun _ => by decide)).mono (fun e w' hh => ⟨by rw [hh.1]; simp, hh.2⟩)) (fun w' hw' => ?_))
    have hn := hw'.nilOf []
    refine ⟨hS _ _ hn (fun p hp => memr2 hp), ?_⟩
    refine wpAnyH_as (l' := #[true, true, true, true, true, true, false]) (by kernel_rfl) ?_
    have q3 : ((((((a0.put (some 35) (.agg (VI .u8 tg))).put (some 36) (.slice (some ⟨g1, 0, none⟩) 15 15)).put (some 37) (.slice (some ⟨g1, 0, none⟩) 15 15)).put (some 38) (.slice (some ⟨g2, 0, none⟩) 1 1)).put (some 34) (.agg (VI .u8 (kl 32)))).put (some 39) (.bool (decide (mtag (kl 32) kR = tg)))).eval (.tmp 39) = .bool (decide (mtag (kl 32) kR = tg)) := eval_put_eq _ _ _ (by simp only [size_put, sz]; decide)
    refine readyH opKn10_6 (by kernel_rfl) (fun o ho hd => wpRun (v := .bool (decide (mtag (kl 32) kR = tg))) (w' := w') hd (run_assign ho q3 w') ⟨hS _ _ hn (fun p hp => memr2 hp), ?_⟩)
    refine wpAnyH_as (l' := #[true, true, true, true, true, true, true]) (by kernel_rfl) ?_
    exact wpAnyH_done (by kernel_rfl) (H g1 g2 w' (hn.sub (fun p hp => memr2 hp))) _
  have L13 : ∀ g1 : Nat, ∀ Y, (Ev B w (.pointer none) [] ((g1, .cells (VI .u8 kR) 5 (15, 16)) :: bx) Y ∧ ∀ p ∈ bx, p.1 ≠ g1) → wpAnyH Try.prog .any opKn10 Q (fun Y : World => Y.rangeAt p2 0 (tg.map (Value.int .u8))) 3 #[true, true, true, true, false, false, false] ((((a0.put (some 35) (.agg (VI .u8 tg))).put (some 36) (.slice (some ⟨g1, 0, none⟩) 15 15)).put (some 37) (.slice (some ⟨g1, 0, none⟩) 15 15)).put (some 34) (.agg (VI .u8 (kl 32)))) Y := fun g1 Y h => by
    have QE : ((((a0.put (some 35) (.agg (VI .u8 tg))).put (some 36) (.slice (some ⟨g1, 0, none⟩) 15 15)).put (some 37) (.slice (some ⟨g1, 0, none⟩) 15 15)).put (some 34) (.agg (VI .u8 (kl 32)))).eval (.tmp 37) = .slice (some ⟨g1, 0, none⟩) 15 15 := by rw [eval_put_ne _ _ _ _ (by decide)]; exact eval_put_eq _ _ _ (by simp only [size_put, sz]; decide)
    refine readyH opKn10_4 (by kernel_rfl) (fun o ho hd => wpRun (v := .slice (some ⟨Y.heap.size, 0, none⟩) 1 1) (w' := Y.alloc (.cells #[.slice (some ⟨g1, 0, none⟩) 15 15] 30)) hd (run_bsL ho QE rfl Y) ?_)
    have hn := h.1.new (.cells #[.slice (some ⟨g1, 0, none⟩) 15 15] 30)
    refine ⟨hS _ _ hn (fun p hp => memr2 hp), ?_⟩
    refine wpAnyH_as (l' := #[true, true, true, true, true, false, false]) (by kernel_rfl) ?_
    rw [put_comm _ _ _ (by decide)]
    exact L14 g1 Y.heap.size _ hn
  have L12 : ∀ g1 : Nat, ∀ Y, (Ev B w (.pointer none) [] ((g1, .cells (VI .u8 kR) 5) :: bx) Y ∧ ∀ p ∈ bx, p.1 ≠ g1) → wpAnyH Try.prog .any opKn10 Q (fun Y : World => Y.rangeAt p2 0 (tg.map (Value.int .u8))) 4 #[true, true, true, false, false, false, false] (((a0.put (some 35) (.agg (VI .u8 tg))).put (some 36) (.slice (some ⟨g1, 0, none⟩) 15 15)).put (some 34) (.agg (VI .u8 (kl 32)))) Y := fun g1 Y h => by
    have QE : (((a0.put (some 35) (.agg (VI .u8 tg))).put (some 36) (.slice (some ⟨g1, 0, none⟩) 15 15)).put (some 34) (.agg (VI .u8 (kl 32)))).eval (.tmp 36) = .slice (some ⟨g1, 0, none⟩) 15 15 := by rw [eval_put_ne _ _ _ _ (by decide)]; exact eval_put_eq _ _ _ (by simp only [size_put, sz]; decide)
    refine readyH opKn10_3 (by kernel_rfl) (fun o ho hd => wpRun (v := .slice (some ⟨g1, 0, none⟩) 15 15) (w' := Y.freeze ⟨g1, (VI .u8 kR).size, none⟩ 1) hd (run_convM ho QE (h.1.row mem0)) ?_)
    have hn : Ev B w (.pointer none) [] ((g1, .cells (VI .u8 kR) 5 (15, 16)) :: bx) (Y.freeze ⟨g1, (VI .u8 kR).size, none⟩ 1) := h.1.set rfl h.2 (freeze_grow Y g1 _) (freeze_at (h.1.row mem0))
    refine ⟨hS _ _ hn (fun p hp => memr1 hp), ?_⟩
    refine wpAnyH_as (l' := #[true, true, true, true, false, false, false]) (by kernel_rfl) ?_
    rw [put_comm _ _ _ (by decide)]
    exact L13 g1 _ ⟨hn, h.2⟩
  have L10 : ∀ Y, (Ev B w (.pointer none) [] bx Y) → wpAnyH Try.prog .any opKn10 Q (fun Y : World => Y.rangeAt p2 0 (tg.map (Value.int .u8))) 5 #[true, true, false, false, false, false, false] ((a0.put (some 35) (.agg (VI .u8 tg))).put (some 34) (.agg (VI .u8 (kl 32)))) Y := fun  Y h => by
    refine readyH opKn10_2 (by kernel_rfl) (fun o ho hd => wpRun (v := .slice (some ⟨Y.heap.size, 0, none⟩) 15 15) (w' := Y.alloc (.cells (VI .u8 kR) 5)) hd (run_Kn10 ho Y) ?_)
    have hn := h.new (.cells (VI .u8 kR) 5)
    refine ⟨hS _ _ hn (fun p hp => memr1 hp), ?_⟩
    refine wpAnyH_as (l' := #[true, true, true, false, false, false, false]) (by kernel_rfl) ?_
    rw [put_comm _ _ _ (by decide)]
    exact L12 Y.heap.size _ ⟨hn, fun p hp => by have := heap_lt (h.at' p hp); omega⟩
  have L04 : ∀ g1 g2 : Nat, ∀ Y, (Ev B w (.pointer none) [] ((g2, .cells #[.slice (some ⟨g1, 0, none⟩) 15 15] 30) :: (g1, .cells (VI .u8 kR) 5 (15, 16)) :: bx) Y) → wpAnyH Try.prog .any opKn10 Q (fun Y : World => Y.rangeAt p2 0 (tg.map (Value.int .u8))) 3 #[false, true, true, true, true, false, false] ((((a0.put (some 35) (.agg (VI .u8 tg))).put (some 36) (.slice (some ⟨g1, 0, none⟩) 15 15)).put (some 37) (.slice (some ⟨g1, 0, none⟩) 15 15)).put (some 38) (.slice (some ⟨g2, 0, none⟩) 1 1)) Y := fun g1 g2 Y h => by
    refine readyH opKn10_0 (by kernel_rfl) (fun o ho hd => wpCall (v := .agg (VI .u8 (kl 32))) ho hd (args := #[]) (by simp) (fun _ => rfl) (counted_any Y) (fun w' hw' => ?_))
    refine ⟨hS _ _ (h.below hw') (fun p hp => memr2 hp), ?_⟩
    refine wpAnyH_as (l' := #[true, true, true, true, true, false, false]) (by kernel_rfl) ?_
    exact L14 g1 g2 _ (h.below hw')
  have L03 : ∀ g1 : Nat, ∀ Y, (Ev B w (.pointer none) [] ((g1, .cells (VI .u8 kR) 5 (15, 16)) :: bx) Y ∧ ∀ p ∈ bx, p.1 ≠ g1) → wpAnyH Try.prog .any opKn10 Q (fun Y : World => Y.rangeAt p2 0 (tg.map (Value.int .u8))) 4 #[false, true, true, true, false, false, false] (((a0.put (some 35) (.agg (VI .u8 tg))).put (some 36) (.slice (some ⟨g1, 0, none⟩) 15 15)).put (some 37) (.slice (some ⟨g1, 0, none⟩) 15 15)) Y := fun g1 Y h => by
    have QE : (((a0.put (some 35) (.agg (VI .u8 tg))).put (some 36) (.slice (some ⟨g1, 0, none⟩) 15 15)).put (some 37) (.slice (some ⟨g1, 0, none⟩) 15 15)).eval (.tmp 37) = .slice (some ⟨g1, 0, none⟩) 15 15 := eval_put_eq _ _ _ (by simp only [size_put, sz]; decide)
    refine readyH2 opKn10_0 opKn10_4 (by kernel_rfl) (fun o ho hd => wpCall (v := .agg (VI .u8 (kl 32))) ho hd (args := #[]) (by simp) (fun _ => rfl) (counted_any Y) (fun w' hw' => ?_)) (fun o ho hd => wpRun (v := .slice (some ⟨Y.heap.size, 0, none⟩) 1 1) (w' := Y.alloc (.cells #[.slice (some ⟨g1, 0, none⟩) 15 15] 30)) hd (run_bsL ho QE rfl Y) ?_)
    · refine ⟨hS _ _ (h.1.below hw') (fun p hp => memr1 hp), ?_⟩
      refine wpAnyH_as (l' := #[true, true, true, true, false, false, false]) (by kernel_rfl) ?_
      exact L13 g1 _ (⟨h.1.below hw', h.2⟩)
    · have hn := h.1.new (.cells #[.slice (some ⟨g1, 0, none⟩) 15 15] 30)
      refine ⟨hS _ _ hn (fun p hp => memr2 hp), ?_⟩
      refine wpAnyH_as (l' := #[false, true, true, true, true, false, false]) (by kernel_rfl) ?_
      exact L04 g1 Y.heap.size _ hn
  have L02 : ∀ g1 : Nat, ∀ Y, (Ev B w (.pointer none) [] ((g1, .cells (VI .u8 kR) 5) :: bx) Y ∧ ∀ p ∈ bx, p.1 ≠ g1) → wpAnyH Try.prog .any opKn10 Q (fun Y : World => Y.rangeAt p2 0 (tg.map (Value.int .u8))) 5 #[false, true, true, false, false, false, false] ((a0.put (some 35) (.agg (VI .u8 tg))).put (some 36) (.slice (some ⟨g1, 0, none⟩) 15 15)) Y := fun g1 Y h => by
    have QE : ((a0.put (some 35) (.agg (VI .u8 tg))).put (some 36) (.slice (some ⟨g1, 0, none⟩) 15 15)).eval (.tmp 36) = .slice (some ⟨g1, 0, none⟩) 15 15 := eval_put_eq _ _ _ (by simp only [size_put, sz]; decide)
    refine readyH2 opKn10_0 opKn10_3 (by kernel_rfl) (fun o ho hd => wpCall (v := .agg (VI .u8 (kl 32))) ho hd (args := #[]) (by simp) (fun _ => rfl) (counted_any Y) (fun w' hw' => ?_)) (fun o ho hd => wpRun (v := .slice (some ⟨g1, 0, none⟩) 15 15) (w' := Y.freeze ⟨g1, (VI .u8 kR).size, none⟩ 1) hd (run_convM ho QE (h.1.row mem0)) ?_)
    · refine ⟨hS _ _ (h.1.below hw') (fun p hp => memr1 hp), ?_⟩
      refine wpAnyH_as (l' := #[true, true, true, false, false, false, false]) (by kernel_rfl) ?_
      exact L12 g1 _ (⟨h.1.below hw', h.2⟩)
    · have hn : Ev B w (.pointer none) [] ((g1, .cells (VI .u8 kR) 5 (15, 16)) :: bx) (Y.freeze ⟨g1, (VI .u8 kR).size, none⟩ 1) := h.1.set rfl h.2 (freeze_grow Y g1 _) (freeze_at (h.1.row mem0))
      refine ⟨hS _ _ hn (fun p hp => memr1 hp), ?_⟩
      refine wpAnyH_as (l' := #[false, true, true, true, false, false, false]) (by kernel_rfl) ?_
      exact L03 g1 _ ⟨hn, h.2⟩
  have L00 : ∀ Y, (Ev B w (.pointer none) [] bx Y) → wpAnyH Try.prog .any opKn10 Q (fun Y : World => Y.rangeAt p2 0 (tg.map (Value.int .u8))) 6 #[false, true, false, false, false, false, false] (a0.put (some 35) (.agg (VI .u8 tg))) Y := fun  Y h => by
    refine readyH2 opKn10_0 opKn10_2 (by kernel_rfl) (fun o ho hd => wpCall (v := .agg (VI .u8 (kl 32))) ho hd (args := #[]) (by simp) (fun _ => rfl) (counted_any Y) (fun w' hw' => ?_)) (fun o ho hd => wpRun (v := .slice (some ⟨Y.heap.size, 0, none⟩) 15 15) (w' := Y.alloc (.cells (VI .u8 kR) 5)) hd (run_Kn10 ho Y) ?_)
    · refine ⟨hS _ _ (h.below hw') (fun p hp => hp), ?_⟩
      refine wpAnyH_as (l' := #[true, true, false, false, false, false, false]) (by kernel_rfl) ?_
      exact L10  _ (h.below hw')
    · have hn := h.new (.cells (VI .u8 kR) 5)
      refine ⟨hS _ _ hn (fun p hp => memr1 hp), ?_⟩
      refine wpAnyH_as (l' := #[false, true, true, false, false, false, false]) (by kernel_rfl) ?_
      exact L02 Y.heap.size _ ⟨hn, fun p hp => by have := heap_lt (h.at' p hp); omega⟩
  rw [rgKn10_is]
  refine wp_region_held_drew (S := fun Y : World => Y.rangeAt p2 0 (tg.map (Value.int .u8))) (by kernel_rfl) (HS _ h0.drew) (fun hH => ?_)
  refine wpAnyH_as (l' := #[false, false, false, false, false, false, false]) (by kernel_rfl) ?_
  refine takeH (v := .agg (VI .u8 tg)) opKn10_1 opKn10_ns (by kernel_rfl) (by kernel_rfl) HPN (fun w hw o ho => run_ldT ht.len ho e2 w hw) hH ?_
  refine wpAnyH_as (l' := #[false, true, false, false, false, false, false]) (by kernel_rfl) ?_
  exact L00 _ h0.drew
end Go.Proofs.Ytgfamcadgahiiaa
