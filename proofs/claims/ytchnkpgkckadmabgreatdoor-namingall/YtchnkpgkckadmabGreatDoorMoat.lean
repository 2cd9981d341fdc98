import Derived.RangeFuncNested
import Derived.RangeFuncBound
import Derived.RangeFuncCalls
import Derived.RangeFuncLeaves
import Derived.RangeFuncBox
import Derived.Shelf.Abstract
import Derived.Shelf.RegionOpen
import Derived.OwnWalkIn
import Derived.TacticsInMore
import Derived.LoopNIn
import Derived.LoopIn
import Derived.Maps.AppendAt
import Derived.Maps.OwnIn
import Derived.Sort.CutIn
import Derived.RangeFuncSeq
import Derived.Lib.Join
import Derived.Test.YtchnkpgkckadmabGreatDoorMoas
import Derived.Test.YtchnkpgkckadmabGreatDoorMoaa
import Derived.Test.YtchnkpgkckadmabGreatDoorMoad
import Derived.Test.YtchnkpgkckadmabGreatDoorMoae
import Derived.Test.YtchnkpgkckadmabGreatDoorMoar
namespace Go.Proofs.YtchnkpgkckadmabGreatDoor
set_option linter.unusedSimpArgs false
set_option linter.unusedVariables false
set_option maxRecDepth 100000
open Go.ChangeShapes Go.WideShapes Go.ChangeAt Go.RowKit Go.Pin Go.Pat Go.Deep
/-- what All keeps: the table and the sorted names -/
structure KT (g r : Nat) (cur : Array Value) (w : World) : Prop where
  om : OM g tbl w
  hr : w.heap[r]? = some (.cells cur 9)
theorem KT.keep {g r n0 : Nat} {cur : Array Value} {w w' : World} (h : KT g r cur w) (hg : n0 ≤ g) (hr : n0 ≤ r) (hk : ∀ k, n0 ≤ k → k < w.heap.size → w'.heap[k]? = w.heap[k]?) : KT g r cur w' :=
  ⟨(hk g hg h.om.lt).trans h.om, (hk r hr (Array.getElem?_eq_some_iff.1 h.hr).1).trans h.hr⟩
theorem KT.below {g r : Nat} {cur : Array Value} {w w' : World} (h : KT g r cur w) (hb : Below w.heap.size w w') : KT g r cur w' :=
  ⟨h.om.below hb, (hb.block r (Array.getElem?_eq_some_iff.1 h.hr).1).trans h.hr⟩
theorem field_entry (t : ByteArray) (w : World) : (Instr.field 47 (.agg #[.string t]) 0).run Tryz.prog w = .ok (.string t) w := by kernel_rfl
/-- what is asked of a yield -/
def YC (n0 F : Nat) (cap : Array Value) (I : Nat → World → Prop) (S : World → Prop) : Prop :=
  ∀ (j : Nat) (W1 W : World) (v0 v1 vl : Value), j < 38 → I j W1 → Below W1.heap.size W1 W → FtP (fun b => W1.heap.size ≤ b ∧ b < W.heap.size) W v0 v1 vl (tab.getD j zPt) →
    Calls Tryz.prog F (#[.agg #[.string (tab.getD j zPt).nm, v0, v1, vl]] ++ cap) W fun e W' => ∃ b : Bool, e = .returned (.bool b) ∧ (∀ k, n0 ≤ k → k < W.heap.size → W'.heap[k]? = W.heap[k]?) ∧ W.heap.size ≤ W'.heap.size ∧ (if b = true then I (j + 1) W' else S W')
/-- the text of a name -/
def txO (k : ByteArray) : ByteArray := ((tbF k).map (fun e => e.2)).getD ⟨#[]⟩
theorem tab_names : (tab.map fun p => tbI p.nm) = tab.map some := by kernel_rfl
theorem nms_look {j : Nat} (hj : j < 38) : (tbF (tab.getD j zPt).nm).isSome = true ∧ prs (txO (tab.getD j zPt).nm) = (tab.getD j zPt, 0) ∧ (txO (tab.getD j zPt).nm).size ≤ 4096 := by
  have hl : j < tab.length := hj
  have h0 := tab_names
  rw [List.map_inj_left] at h0
  have hm : tab.getD j zPt ∈ tab := by rw [show tab.getD j zPt = tab[j] by simp [List.getD, hl]]; exact List.getElem_mem _
  have h2 := h0 _ hm
  unfold txO
  cases hf : tbF (tab.getD j zPt).nm with
  | none => rw [tbF_none hf] at h2; cases h2
  | some e =>
    obtain ⟨ek, em⟩ := tbF_some hf
    obtain ⟨a1, a2, a3⟩ := tbl_at em
    rw [ek, h2] at a1
    exact ⟨rfl, a1, a3⟩
theorem nms_at {j : Nat} (hj : j < 38) : (nms.map Go.Proofs.encStr)[j]? = some (.string (tab.getD j zPt).nm) := by
  have hl : j < tab.length := hj
  simp [nms, List.getElem?_map, hl, List.getD, Go.Proofs.encStr]
theorem sorted_names (n0 : Nat) (w1 : World) (h : OM n0 tbl w1) :
    Calls Tryz.prog 11 #[.func (.func 20) #[] #[.pointer (some ⟨w1.heap.size, 0, none⟩)]] (w1.alloc (.cells #[.map (some n0)] 40)) fun e w3 =>
      ∃ r cp cur, e = .returned (.slice (some ⟨r, 0, none⟩) 38 cp) ∧ 38 ≤ cp ∧ cp ≤ maxLen ∧ (w1.alloc (.cells #[.map (some n0)] 40)).heap.size ≤ r ∧ w3.heap[r]? = some (.cells cur 9) ∧ (∀ j, j < 38 → cur[j]? = some (.string (tab.getD j zPt).nm)) ∧
        Below (w1.alloc (.cells #[.map (some n0)] 40)).heap.size (w1.alloc (.cells #[.map (some n0)] 40)) w3 := by
  obtain ⟨D, hD1, hD2, hD3⟩ := h.owns
  refine (callsIn_wide.1 (Tryz.slices_Sorted_keys_11_12 n0 38 D entR w1 hD1 (by rw [hD3]; unfold maxLen; omega) (by rw [hD3]; omega))).mono ?_
  rintro e w3 ⟨v, ss, rfl, hS, hrow, hnil, hb⟩
  have hlen : ss.length = 38 := by rw [hS.length_eq, hD2]; rfl
  rw [nms_of hD2 hS, hlen] at hrow
  rcases hrow.2 with ⟨_, h⟩ | ⟨r, cp, cur, rfl, hr0, hrr, hc1, hc2, hcz, hct⟩
  · exact absurd h (by decide)
  · refine ⟨r, cp, cur, rfl, hc1, hc2, hr0, hrr, fun j hj => ?_, hb⟩
    rw [← nms_at hj, ← hct, List.getElem?_take]
    simp [hj]
set_option maxHeartbeats 8000000 in
theorem all1_any {ea : Int → Addr} (n0 F : Nat) (cap : Array Value) (I : Nat → World → Prop) (S : World → Prop) (w : World) (hn0 : w.heap.size = n0) (hF : ∀ args w, (callFunc F args).run Tryz.prog w = .ok (.enter F args) w) (hY : YC n0 F cap I S) (hE : ∀ j W, I j W → Errs ea W) (h0 : I 0 w) :
    Calls Tryz.prog 9 #[.func (.func F) #[] cap] w fun e w' => e = .returned (.tuple #[]) ∧ (S w' ∨ I 38 w') := by
  have CT := table_any w
  rw [hn0] at CT
  have HY : Hid _ := hY
  have HE : Hid _ := hE
  have H0 : Hid (I 0 w) := h0
  have HN : Hid (w.heap.size = n0) := hn0
  clear hY hE h0 hn0
  go_enter Tryz.func9, Tryz.ntmps9
  go_upto_region 1 with (first
    | (go_at_call 10; refine CT.mono ?_; rintro e w1 ⟨rfl, hom, hb⟩; have H1 : Hid (OM n0 tbl w1 ∧ Below n0 w w1) := ⟨hom, hb⟩; clear hom hb CT))
  have CK := callsIn_wide.1 (Tryz.maps_Keys_12 (some n0) w1)
  have CS := sorted_names n0 w1 H1.out.1
  have hal : Below n0 w (w1.alloc (.cells #[.map (some n0)] 40)) := H1.out.2.alloc (Nat.le_trans (by rw [← HN.out]; exact Nat.le_refl _) H1.out.2.size) _
  have hom2 : OM n0 tbl (w1.alloc (.cells #[.map (some n0)] 40)) := H1.out.1.below ((Below.refl _ _).alloc (Nat.le_refl _) _)
  have H2 : Hid (Below n0 w (w1.alloc (.cells #[.map (some n0)] 40)) ∧ OM n0 tbl (w1.alloc (.cells #[.map (some n0)] 40))) := ⟨hal, hom2⟩
  clear hal hom2
  go_wp2_with (first
    | (go_at_call 12; refine CK.mono ?_; rintro e w2 ⟨rfl, rfl⟩)
    | (go_at_call 11; refine CS.mono ?_; rintro e w3 ⟨r, cp, cur, rfl, hc1, hc2, hr0, hrr, hat, hb⟩; have H3 : Hid (Below n0 w w3 ∧ KT n0 r cur w3 ∧ n0 ≤ r ∧ (∀ j, j < 38 → cur[j]? = some (.string (tab.getD j zPt).nm))) := ⟨H2.out.1.trans (hb.mono (Nat.le_of_lt H2.out.2.lt)), ⟨H2.out.2.below hb, hrr⟩, Nat.le_trans (Nat.le_of_lt H2.out.2.lt) hr0, hat⟩; clear hat hb hr0 hrr))
  clear CK CS
  go_loopw [12] (fun v12 wr => ∃ (i : Nat) (W1 : World), i ≤ 38 ∧ v12 = .int .i64 i ∧ I i W1 ∧ Below W1.heap.size W1 wr ∧ (0 < i → W1 = wr) ∧ KT n0 r cur wr) (fun v _ => 38 - (intOf v).toNat)
  case atStart => exact ⟨0, w, Nat.zero_le _, rfl, H0.out, by rw [HN.out]; exact H3.out.1, fun h => absurd h (Nat.lt_irrefl _), H3.out.2.1⟩
  case round =>
    obtain ⟨i, W1, hi, rfl, hI, hB, hW, hK⟩ := hrel
    by_cases hlt : i < 38
    · have b1 : (i : Int) < 38 := by omega
      have bn : (0 : Int) ≤ (i : Int) := by omega
      obtain ⟨nm, hnm⟩ : ∃ nm, (tab.getD i zPt).nm = nm := ⟨_, rfl⟩
      have c0 : wr.cell? ⟨r, i, none⟩ = some (.string nm) := by
        rw [cell_of_row _ _ _ _ _ _ hK.hr, H3.out.2.2.2 i hlt, hnm]
      have hl : (Instr.lookup 40 (.map (some n0)) (.string nm) false).run Tryz.prog wr = .ok (.agg #[.string (txO nm)]) wr := run_look hK.om nm false
      obtain ⟨_, hp1, hp2⟩ := nms_look hlt
      rw [hnm] at hp1 hp2
      obtain ⟨tx, htx⟩ : ∃ tx, txO nm = tx := ⟨_, rfl⟩
      rw [htx] at hl hp1 hp2
      have HR : Hid (I i W1 ∧ Below W1.heap.size W1 wr ∧ KT n0 r cur wr) := ⟨hI, hB, hK⟩
      have CP := parse_any' (ea := ea) tx wr ((HE.out i W1 hI).below hB) (by omega)
      unfold PsP at CP
      rw [hp1] at CP
      simp only [EV_0, hnm] at CP
      have HLT : Hid (i < 38) := hlt
      have hfl := field_entry tx
      have HNM : Hid ((tab.getD i zPt).nm = nm) := hnm
      clear hp1 hp2 htx hI hB hW hK hlt hnm
      go_upto_region 5 with (first
        | (go_at_call 13; refine CP.mono ?_; rintro e w4 ⟨hb, v0, v1, vl, rfl, hft⟩; obtain ⟨p0, q0, s0, rfl⟩ := hft.1.sl3; obtain ⟨p1, q1, s1, rfl⟩ := hft.2.1.sl3; obtain ⟨p2, q2, s2, rfl⟩ := hft.2.2.sl3; have H4 : Hid (Below wr.heap.size wr w4 ∧ FtP (fun b => wr.heap.size ≤ b ∧ b < w4.heap.size) w4 (.slice p0 q0 s0) (.slice p1 q1 s1) (.slice p2 q2 s2) (tab.getD i zPt)) := ⟨hb, hft⟩; clear hb hft CP))
      have h5 : Below W1.heap.size W1 (w4.alloc (.cells #[.string nm, .slice p0 q0 s0, .slice p1 q1 s1, .slice p2 q2 s2] 30)) := (HR.out.2.1.trans (H4.out.1.mono HR.out.2.1.size)).alloc (Nat.le_trans HR.out.2.1.size H4.out.1.size) _
      have hf5 : FtP (fun b => W1.heap.size ≤ b ∧ b < w4.heap.size + 1) (w4.alloc (.cells #[.string nm, .slice p0 q0 s0, .slice p1 q1 s1, .slice p2 q2 s2] 30)) (.slice p0 q0 s0) (.slice p1 q1 s1) (.slice p2 q2 s2) (tab.getD i zPt) := (H4.out.2.keep (fun b hb => Below.heap_alloc _ _ _ hb.2)).mono (fun b hb => ⟨Nat.le_trans HR.out.2.1.size hb.1, Nat.lt_succ_of_lt hb.2⟩)
      rw [← size_alloc w4 (.cells #[.string nm, .slice p0 q0 s0, .slice p1 q1 s1, .slice p2 q2 s2] 30)] at hf5
      have hr5 := heap_alloc_new w4 (.cells #[.string nm, .slice p0 q0 s0, .slice p1 q1 s1, .slice p2 q2 s2] 30)
      have hk5 : KT n0 r cur (w4.alloc (.cells #[.string nm, .slice p0 q0 s0, .slice p1 q1 s1, .slice p2 q2 s2] 30)) := HR.out.2.2.below (H4.out.1.alloc H4.out.1.size _)
      obtain ⟨g5, hg5⟩ : ∃ g5, w4.heap.size = g5 := ⟨_, rfl⟩
      obtain ⟨w5, hw5⟩ : ∃ w5, w4.alloc (.cells #[.string nm, .slice p0 q0 s0, .slice p1 q1 s1, .slice p2 q2 s2] 30) = w5 := ⟨_, rfl⟩
      rw [hw5] at h5 hf5 hr5 hk5 ⊢
      simp only [hg5] at hr5 ⊢
      have k0 := cell_of_row w5 g5 0 _ _ _ hr5
      have k1 := cell_of_row w5 g5 1 _ _ _ hr5
      have k2 := cell_of_row w5 g5 2 _ _ _ hr5
      have k3 := cell_of_row w5 g5 3 _ _ _ hr5
      simp at k0 k1 k2 k3
      have CY := HY.out i W1 w5 _ _ _ HLT.out HR.out.1 h5 hf5
      rw [HNM.out] at CY
      have HK5 : Hid (KT n0 r cur w5) := hk5
      clear hw5 hg5 h5 hf5 hr5 c0 hl hfl hk5
      go_upto_region 5 with (fail)
      go_wp2_with (refine CY.mono ?_; rintro e w6 ⟨b, rfl, hkp, hsz, hI⟩; have H6 : Hid (KT n0 r cur w6 ∧ (if b = true then I (i + 1) w6 else S w6)) := ⟨HK5.out.keep (Nat.le_refl _) H3.out.2.2.1 hkp, hI⟩; clear hkp hsz hI CY k0 k1 k2 k3)
      · rename_i hbb
        obtain rfl : b = false := by simpa using hbb
        refine bodyPost_ret (v := .tuple #[]) (by simp [results, Tryz.results9]) rfl ⟨rfl, .inl H6.out.2⟩
      · rename_i hbb
        obtain rfl : b = true := by simpa using hbb
        exact ⟨⟨i + 1, w6, HLT.out, congrArg (Value.int .i64) (Int.natCast_succ i).symm, H6.out.2, Below.refl _ _, fun _ => rfl, H6.out.1⟩, by have := HLT.out; show 38 - ((i : Int) + 1).toNat < 38 - ((i : Int)).toNat; omega⟩
    · have b1 : ¬ (i : Int) < 38 := by omega
      obtain rfl : i = 38 := by omega
      obtain rfl := hW (by decide)
      have HI : Hid (I 38 W1) := hI
      clear hB hK hI
      go_wp2
      go_end0
      exact ⟨rfl, .inr HI.out⟩
end Go.Proofs.YtchnkpgkckadmabGreatDoor
namespace Go.Proofs.YtchnkpgkckadmabGreatDoor
set_option linter.unusedSimpArgs false
set_option linter.unusedVariables false
set_option maxRecDepth 100000
open Go.ChangeShapes Go.WideShapes Go.ChangeAt Go.RowKit Go.Pin Go.Pat Go.Deep
attribute [local go_sem] Oper.semAt_some
theorem KT.keep2 {n0 r n1 : Nat} {cur : Array Value} {w w' : World} (h : KT n0 r cur w) (h0 : n0 < n1) (hr : n0 ≤ r ∧ r < n1) (hk : ∀ k, n0 ≤ k → k < n1 → w'.heap[k]? = w.heap[k]?) : KT n0 r cur w' := ⟨(hk n0 (Nat.le_refl _) h0).trans h.om, (hk r hr.1 hr.2).trans h.hr⟩
set_option maxHeartbeats 8000000 in
theorem all1_in {ea : Int → Addr} (l n0 : Nat) (I : Nat → Nat → World → Prop) (w : World) (hn0 : w.heap.size = n0)
    (hY : ∀ n1 j W1 W v0 v1 vl, n0 ≤ n1 → n1 ≤ W.heap.size → j < 38 → I n1 j W1 → Below W1.heap.size W1 W → FtP (fun b => W1.heap.size ≤ b ∧ b < W.heap.size) W v0 v1 vl (tab.getD j zPt) →
      YieldAt Fence.wide 3 Tryz.prog l #[.agg #[.string (tab.getD j zPt).nm, v0, v1, vl]] W fun e W' => e = .returned (.bool true) ∧ (∀ k, n0 ≤ k → k < n1 → W'.heap[k]? = W.heap[k]?) ∧ W.heap.size ≤ W'.heap.size ∧ I n1 (j + 1) W')
    (hE : ∀ n1 j W, I n1 j W → Errs ea W) (h0 : ∀ n1, n0 ≤ n1 → I n1 0 w) :
    CallsIn Fence.wide 4 Tryz.prog 9 #[.func (.yield l) #[] #[]] w fun e w' => e = .returned (.tuple #[]) ∧ ∃ n1, n0 ≤ n1 ∧ I n1 38 w' := by
  have CT := table_any w
  rw [hn0] at CT
  have HY : Hid _ := hY
  have HE : Hid _ := hE
  have H0 : Hid (∀ n1, n0 ≤ n1 → I n1 0 w) := h0
  have HN : Hid (w.heap.size = n0) := hn0
  clear hY hE h0 hn0
  refine callsIn_of_wp Tryz.func9 rfl trivial ?_ rfl
  simp only [Tryz.ntmps9, List.size_toArray, List.length_cons, List.length_nil, Nat.reduceAdd, Nat.reduceSub, Array.replicate_succ, Array.replicate_zero, List.push_toArray, List.append_toArray, List.nil_append, List.cons_append]
  gi_upto_region 1 with (refine ⟨trivial, ?_⟩; gi_at_call 10; refine (callsIn_wide.2 CT).mono ?_; rintro e w1 ⟨rfl, hom, hb⟩; have H1 : Hid (OM n0 tbl w1 ∧ Below n0 w w1) := ⟨hom, hb⟩; clear hom hb CT)
  have CK := Tryz.maps_Keys_12 (some n0) w1
  have CS := sorted_names n0 w1 H1.out.1
  have hal : Below n0 w (w1.alloc (.cells #[.map (some n0)] 40)) := H1.out.2.alloc (Nat.le_trans (by rw [← HN.out]; exact Nat.le_refl _) H1.out.2.size) _
  have hom2 : OM n0 tbl (w1.alloc (.cells #[.map (some n0)] 40)) := H1.out.1.below ((Below.refl _ _).alloc (Nat.le_refl _) _)
  have H2 : Hid (Below n0 w (w1.alloc (.cells #[.map (some n0)] 40)) ∧ OM n0 tbl (w1.alloc (.cells #[.map (some n0)] 40))) := ⟨hal, hom2⟩
  clear hal hom2
  gi_wp2_with (first
    | (refine ⟨trivial, ?_⟩; gi_at_call 12; refine (callsIn_wide.2 (callsIn_wide.1 CK)).mono ?_; rintro e w2 ⟨rfl, rfl⟩)
    | (refine ⟨trivial, ?_⟩; gi_at_call 11; refine (callsIn_wide.2 CS).mono ?_; rintro e w3 ⟨r, cp, cur, rfl, hc1, hc2, hr0, hrr, hat, hb⟩; have H3 : Hid (Below n0 w w3 ∧ KT n0 r cur w3 ∧ n0 ≤ r ∧ (∀ j, j < 38 → cur[j]? = some (.string (tab.getD j zPt).nm))) := ⟨H2.out.1.trans (hb.mono (Nat.le_of_lt H2.out.2.lt)), ⟨H2.out.2.below hb, hrr⟩, Nat.le_trans (Nat.le_of_lt H2.out.2.lt) hr0, hat⟩; clear hat hb hr0 hrr))
  clear CK CS
  obtain ⟨n1, hn1⟩ : ∃ n1, w3.heap.size = n1 := ⟨_, rfl⟩
  have HN1 : Hid (n0 < n1 ∧ r < n1 ∧ w3.heap.size = n1) := ⟨by rw [← hn1]; exact H3.out.2.1.om.lt, by rw [← hn1]; exact (Array.getElem?_eq_some_iff.1 H3.out.2.1.hr).1, hn1⟩
  clear hn1
  gi_loopw [12] (fun v12 wr => ∃ (i : Nat) (W1 : World), i ≤ 38 ∧ v12 = .int .i64 i ∧ I n1 i W1 ∧ Below W1.heap.size W1 wr ∧ (0 < i → W1 = wr) ∧ KT n0 r cur wr ∧ n1 ≤ wr.heap.size) (fun v _ => 38 - (intOf v).toNat)
  case atStart => exact ⟨0, w, Nat.zero_le _, rfl, H0.out n1 (Nat.le_of_lt HN1.out.1), by rw [HN.out]; exact H3.out.1, fun h => absurd h (Nat.lt_irrefl _), H3.out.2.1, by rw [HN1.out.2.2]; exact Nat.le_refl _⟩
  case round =>
    obtain ⟨i, W1, hi, rfl, hI, hB, hW, hK, hS⟩ := hrel
    by_cases hlt : i < 38
    · have b1 : (i : Int) < 38 := by omega
      have bn : (0 : Int) ≤ (i : Int) := by omega
      obtain ⟨nm, hnm⟩ : ∃ nm, (tab.getD i zPt).nm = nm := ⟨_, rfl⟩
      have c0 : wr.cell? ⟨r, i, none⟩ = some (.string nm) := by
        rw [cell_of_row _ _ _ _ _ _ hK.hr, H3.out.2.2.2 i hlt, hnm]
      have hl : (Instr.lookup 40 (.map (some n0)) (.string nm) false).run Tryz.prog wr = .ok (.agg #[.string (txO nm)]) wr := run_look hK.om nm false
      obtain ⟨_, hp1, hp2⟩ := nms_look hlt
      rw [hnm] at hp1 hp2
      obtain ⟨tx, htx⟩ : ∃ tx, txO nm = tx := ⟨_, rfl⟩
      rw [htx] at hl hp1 hp2
      have HR : Hid (I n1 i W1 ∧ Below W1.heap.size W1 wr ∧ KT n0 r cur wr ∧ n1 ≤ wr.heap.size) := ⟨hI, hB, hK, hS⟩
      have CP := parse_any' (ea := ea) tx wr ((HE.out n1 i W1 hI).below hB) (by omega)
      unfold PsP at CP
      rw [hp1] at CP
      simp only [EV_0, hnm] at CP
      have HLT : Hid (i < 38) := hlt
      have hfl := field_entry tx
      have HNM : Hid ((tab.getD i zPt).nm = nm) := hnm
      clear hp1 hp2 htx hI hB hW hK hlt hnm hS
      gi_upto_region 5 with (refine ⟨trivial, ?_⟩; gi_at_call 13; refine (callsIn_wide.2 CP).mono ?_; rintro e w4 ⟨hb, v0, v1, vl, rfl, hft⟩; obtain ⟨p0, q0, s0, rfl⟩ := hft.1.sl3; obtain ⟨p1, q1, s1, rfl⟩ := hft.2.1.sl3; obtain ⟨p2, q2, s2, rfl⟩ := hft.2.2.sl3; have H4 : Hid (Below wr.heap.size wr w4 ∧ FtP (fun b => wr.heap.size ≤ b ∧ b < w4.heap.size) w4 (.slice p0 q0 s0) (.slice p1 q1 s1) (.slice p2 q2 s2) (tab.getD i zPt)) := ⟨hb, hft⟩; clear hb hft CP)
      have h5 : Below W1.heap.size W1 (w4.alloc (.cells #[.string nm, .slice p0 q0 s0, .slice p1 q1 s1, .slice p2 q2 s2] 30)) := (HR.out.2.1.trans (H4.out.1.mono HR.out.2.1.size)).alloc (Nat.le_trans HR.out.2.1.size H4.out.1.size) _
      have hf5 : FtP (fun b => W1.heap.size ≤ b ∧ b < w4.heap.size + 1) (w4.alloc (.cells #[.string nm, .slice p0 q0 s0, .slice p1 q1 s1, .slice p2 q2 s2] 30)) (.slice p0 q0 s0) (.slice p1 q1 s1) (.slice p2 q2 s2) (tab.getD i zPt) := (H4.out.2.keep (fun b hb => Below.heap_alloc _ _ _ hb.2)).mono (fun b hb => ⟨Nat.le_trans HR.out.2.1.size hb.1, Nat.lt_succ_of_lt hb.2⟩)
      rw [← size_alloc w4 (.cells #[.string nm, .slice p0 q0 s0, .slice p1 q1 s1, .slice p2 q2 s2] 30)] at hf5
      have hr5 := heap_alloc_new w4 (.cells #[.string nm, .slice p0 q0 s0, .slice p1 q1 s1, .slice p2 q2 s2] 30)
      have hk5 : KT n0 r cur (w4.alloc (.cells #[.string nm, .slice p0 q0 s0, .slice p1 q1 s1, .slice p2 q2 s2] 30)) := HR.out.2.2.1.below (H4.out.1.alloc H4.out.1.size _)
      have hn5 : n1 ≤ (w4.alloc (.cells #[.string nm, .slice p0 q0 s0, .slice p1 q1 s1, .slice p2 q2 s2] 30)).heap.size := by rw [size_alloc]; have := HR.out.2.2.2; have := H4.out.1.size; omega
      obtain ⟨g5, hg5⟩ : ∃ g5, w4.heap.size = g5 := ⟨_, rfl⟩
      obtain ⟨w5, hw5⟩ : ∃ w5, w4.alloc (.cells #[.string nm, .slice p0 q0 s0, .slice p1 q1 s1, .slice p2 q2 s2] 30) = w5 := ⟨_, rfl⟩
      rw [hw5] at h5 hf5 hr5 hk5 hn5 ⊢
      simp only [hg5] at hr5 ⊢
      have k0 := cell_of_row w5 g5 0 _ _ _ hr5
      have k1 := cell_of_row w5 g5 1 _ _ _ hr5
      have k2 := cell_of_row w5 g5 2 _ _ _ hr5
      have k3 := cell_of_row w5 g5 3 _ _ _ hr5
      simp at k0 k1 k2 k3
      have CY := HY.out n1 i W1 w5 _ _ _ (Nat.le_of_lt HN1.out.1) hn5 HLT.out HR.out.1 h5 hf5
      rw [HNM.out] at CY
      have HK5 : Hid (KT n0 r cur w5 ∧ n1 ≤ w5.heap.size) := ⟨hk5, hn5⟩
      clear hw5 hg5 h5 hf5 hr5 c0 hl hfl hk5 hn5
      obtain ⟨fn, tmps, assign, body, hy, hR⟩ := CY
      have HRR : Hid (RoundIn Fence.wide 3 Tryz.prog l fn tmps assign body w5 _) := hR
      clear hR
      gi_wp2
      refine HRR.out.mono ?_
      rintro e w6 ⟨rfl, hkp, hsz, hI⟩
      have H6 : Hid (KT n0 r cur w6 ∧ I n1 (i + 1) w6 ∧ n1 ≤ w6.heap.size) := ⟨HK5.out.1.keep2 HN1.out.1 ⟨H3.out.2.2.1, HN1.out.2.1⟩ hkp, hI, Nat.le_trans HK5.out.2 hsz⟩
      clear hkp hsz hI k0 k1 k2 k3
      gi_wp2
      go_roundw
      case rel => exact ⟨i + 1, w6, HLT.out, congrArg (Value.int .i64) (Int.natCast_succ i).symm, H6.out.2.1, Below.refl _ _, fun _ => rfl, H6.out.1, H6.out.2.2⟩
      case measure => have := HLT.out; show 38 - ((i : Int) + 1).toNat < 38 - ((i : Int)).toNat; omega
    · have b1 : ¬ (i : Int) < 38 := by omega
      obtain rfl : i = 38 := by omega
      obtain rfl := hW (by decide)
      have HI : Hid (I n1 38 W1) := hI
      clear hB hK hI
      gi_wp2
      go_end0
      exact ⟨rfl, n1, Nat.le_of_lt HN1.out.1, HI.out⟩
end Go.Proofs.YtchnkpgkckadmabGreatDoor
/- a range over a function of one's own: the rounds may change what is theirs; what is yielded lies in new memory -/
namespace Go.Pin
open Go Go.ChangeShapes Go.WideShapes Go.ChangeAt Go.RowKit
/-- how a round's body is left: the two records and the iterator's memory as they were -/
def rgPost (B n1 : Nat) (C : World → Prop) (W : World) : Exit → Act → World → Prop
  | .normal, _, W3 => W3.heap[B]? = W.heap[B]? ∧ W3.heap[B + 1]? = W.heap[B + 1]? ∧ (∀ k, B + 2 ≤ k → k < n1 → W3.heap[k]? = W.heap[k]?) ∧ W.heap.size ≤ W3.heap.size ∧ C W3
  | _, _, _ => False
theorem below_put (B : Nat) (X : World) (o : Obj) : Below B X (X.putObj (B + 1) o) := ⟨rfl, rfl, rfl, by rw [World.putObj_size]; exact Nat.le_refl _, fun k hk => World.putObj_heap_other (by omega)⟩
section
variable {F : Fence} {n : Nat} {P : Program}
theorem wpIn_range_own {g : Operand} {ps : Array Tmp} {assign body : Code} {Q : Exit → Act → World → Prop} {a : Act} {w : World} (B N : Nat) (hB : w.heap.size = B)
    (hro : F.round = none) (h1 : 1 ≤ n) {gf : Nat} (hg : a.eval g = .func (.func gf) #[] #[]) (hFg : F.fn gf) (eg : ∀ args w, (callFunc gf args).run P w = .ok (.enter gf args) w)
    (hps : ps.size = 1)
    (Y : Nat → World → World → Value → Prop) (hYb : ∀ j W1 W x, Y j W1 W x → Below W1.heap.size W1 W)
    (C : Nat → Nat → World → Prop)
    (hC : ∀ n1 j X Z, C n1 j X → Below B X Z → (∀ k, k ≠ B + 1 → k < X.heap.size → Z.heap[k]? = X.heap[k]?) → C n1 j Z)
    (hseq : ∀ (l : Nat) (I : Nat → Nat → World → Prop) (w2 : World), w2.heap.size = B + 2 →
      (∀ n1 j W1 W x, B + 2 ≤ n1 → n1 ≤ W.heap.size → j < N → I n1 j W1 → Y j W1 W x → YieldAt F (n - 1 - 1) P l #[x] W fun e W' => e = .returned (.bool true) ∧ (∀ k, B + 2 ≤ k → k < n1 → W'.heap[k]? = W.heap[k]?) ∧ W.heap.size ≤ W'.heap.size ∧ I n1 (j + 1) W') →
      (∀ n1 j W, I n1 j W → C n1 j W) → (∀ n1, B + 2 ≤ n1 → I n1 0 w2) →
      CallsIn F (n - 1) P gf #[.func (.yield l) #[] #[]] w2 fun e w' => e = .returned (.tuple #[]) ∧ ∃ n1, B + 2 ≤ n1 ∧ I n1 N w')
    (h0 : ∀ n1, B + 2 ≤ n1 → C n1 0 w)
    (hround : ∀ n1 j W1 W x, B + 2 ≤ n1 → n1 ≤ W.heap.size → j < N → B + 2 ≤ W1.heap.size → C n1 j W1 → Y j W1 W x →
      assign.wpIn (F.inRound (B + 1)) (n - 1 - 1) P (Exit.then (fun a' W' => (∀ k, k < W.heap.size → W'.heap[k]? = W.heap[k]?) ∧ W.heap.size ≤ W'.heap.size ∧
          ∀ r, body.wpIn (F.inRound (B + 1)) (n - 1 - 1) P (rgPost B n1 (C n1 (j + 1)) (W'.putObj (B + 1) (.loop r))) a' (W'.putObj (B + 1) (.loop r))) (fun _ _ _ => False))
        { tmps := (ps.zip #[x]).foldl (fun t (p, v) => t.setIfInBounds p v) a.tmps, defers := [] } W)
    (hdone : ∀ n1 W, B + 2 ≤ n1 → C n1 N W → W.heap[B]? = some (.deferred (some [])) → Q .normal { a with defers := { target := .collected B, args := #[] } :: a.defers } W) :
    (Code.rangeFunc g ps assign body).wpIn F n P Q a w := by
  refine wpIn_rangeFunc ?_
  intro fn hfn
  rw [hro]
  obtain ⟨rec, hrec⟩ : ∃ rec : LoopState → Loop, rec = fun st => { state := st, pending := none, fn, tmps := a.tmps, params := ps, assign, body, defers := B } := ⟨_, rfl⟩
  obtain ⟨W1, hW1⟩ : ∃ W1, (w.alloc (.deferred (some []))).alloc (.loop (rec .ready)) = W1 := ⟨_, rfl⟩
  have hs1 : W1.heap.size = B + 2 := by rw [← hW1]; simp [hB]
  have hL1 : W1.heap[B + 1]? = some (.loop (rec .ready)) := by
    rw [← hW1]
    have := World.alloc_heap_new (w.alloc (.deferred (some []))) (.loop (rec .ready))
    rwa [World.size_alloc, hB] at this
  have hD1 : W1.heap[B]? = some (.deferred (some [])) := by
    rw [← hW1, ← hB]
    exact (Below.heap_alloc _ _ _ (by simp)).trans (World.alloc_heap_new w _)
  have hk1 : ∀ k, k ≠ B + 1 → k < w.heap.size → W1.heap[k]? = w.heap[k]? := fun k _ hk => by
    rw [← hW1]
    exact (Below.heap_alloc _ _ _ (by simp; omega)).trans (Below.heap_alloc _ _ _ hk)
  refine ⟨B + 1, [{ target := .collected B, args := #[] }], W1, { target := .fn (.func gf) #[], args := #[.func (.yield (B + 1)) #[] #[]] }, W1, gf, #[.func (.yield (B + 1)) #[] #[]], W1, ?_, ?_, ?_, ?_, fun _ => h1, ?_⟩
  · rw [← hW1, hrec, ← hB]; exact run_enterLoop_outer _ _ _ _ _
  · simp only [resolve, hg]
    simp [go_sem]
  · intro f' hf'; simp [Target.leads] at hf'; subst hf'; exact hFg
  · simp [invoke, go_sem, eg]
  refine (hseq (B + 1) (fun n1 j W => C n1 j W ∧ W.heap[B + 1]? = some (.loop (rec .ready)) ∧ W.heap[B]? = some (.deferred (some []))) W1 hs1 ?_ (fun _ _ _ h => h.1) (fun n1 hn => ⟨hC _ _ _ _ (h0 n1 hn) (by rw [← hW1, ← hB]; exact ((Below.refl _ w).alloc (Nat.le_refl _) _).alloc (by simp) _) hk1, hL1, hD1⟩)).mono ?_
  · rintro n1 j Wa W x hn hnW hj ⟨hc, hl, hd⟩ hy
    have hb := hYb j Wa W x hy
    have hl' := (hb.block _ (Array.getElem?_eq_some_iff.1 hl).1).trans hl
    have hd' := (hb.block _ (Array.getElem?_eq_some_iff.1 hd).1).trans hd
    have hry := run_yield (P := P) (args := #[x]) hl' (by rw [hrec]; exact hps.symm)
    rw [hrec] at hry
    refine ⟨fn, _, assign, body, hry, roundIn_of_wpIn hfn (wpIn_mono (hround n1 j Wa W x hn hnW hj (by have := (Array.getElem?_eq_some_iff.1 hl).1; omega) hc hy) ?_)⟩
    intro e a' W' hq
    cases e with
    | normal =>
      obtain ⟨hkp, hsz, hbd⟩ := hq
      have hl2 := (hkp _ (Array.getElem?_eq_some_iff.1 hl').1).trans hl'
      have hd2 := (hkp _ (Array.getElem?_eq_some_iff.1 hd').1).trans hd'
      have hlt : B + 1 < W'.heap.size := (Array.getElem?_eq_some_iff.1 hl2).1
      refine ⟨_, run_beginRound hl2 (by rw [hrec]), wpIn_mono (hbd _) ?_⟩
      intro e3 a3 W3 hp
      cases e3 with
      | normal =>
        obtain ⟨p1, p2, p3, p4, p5⟩ := hp
        rw [World.putObj_heap_same hlt] at p2
        rw [World.putObj_heap_other (by omega), hd2] at p1
        rw [World.putObj_size] at p4
        have hlt3 : B + 1 < W3.heap.size := by omega
        have hre := run_endRound (P := P) none p2
        refine ⟨_, _, hre, rfl, fun k hk1 hk2 => ?_, by rw [World.putObj_size]; omega, hC _ _ _ _ p5 (below_put B _ _) (fun k hk _ => World.putObj_heap_other hk), ?_, ?_⟩
        · rw [World.putObj_heap_other (by omega), p3 k hk1 hk2, World.putObj_heap_other (by omega)]
          exact hkp k (by omega)
        · rw [World.putObj_heap_same hlt3, hrec]
          rfl
        · rw [World.putObj_heap_other (by omega)]
          exact p1
      | ret => exact hp.elim
      | exit id => exact hp.elim
      | goto t => exact hp.elim
      | panic ch => exact hp.elim
      | outgrown => exact hp.elim
    | ret => exact hq.elim
    | exit id => exact hq.elim
    | goto t => exact hq.elim
    | panic ch => exact hq.elim
    | outgrown => exact hq.elim
  · rintro e W2 ⟨rfl, n1, hn, hc, hl, hd⟩
    have hre := run_endLoop (P := P) hl (by rw [hrec]; simp)
    rw [hrec] at hre
    exact ⟨none, _, hre, hdone n1 _ hn (hC _ _ _ _ hc (below_put B _ _) (fun k hk _ => World.putObj_heap_other hk)) ((World.putObj_heap_other (by omega)).trans hd)⟩
end
end Go.Pin
/- the words of a modified pattern's name -/
namespace Go.Pat
theorem nmb_size {s : ByteArray} (h : 0 ≤ nmb s) : s.size ≤ 6 := by
  unfold nmb at h
  split at h
  · omega
  · omega
theorem wd1_size {b : Bool} {p : Pt} {l : Int} {s : ByteArray} {x : Pt × Int} (h : wd1 b p l s = some x) : s.size ≤ 8 := by
  unfold wd1 at h
  split at h
  · rename_i h1
    rw [h1.1]
    decide
  · split at h
    · cases h
    · rename_i _ h2
      have := nmb_size (s := s) (by omega)
      omega
theorem wdsM_pre {p : Pt} {ws : List ByteArray} : ∀ {i : Nat} {x : Pt × Int}, wdsM p ws i = some x → ∀ j, j < i → (ws.getD j ⟨#[]⟩).size ≤ 8
  | 0, x, h, j, hj => absurd hj (Nat.not_lt_zero _)
  | i + 1, x, h, j, hj => by
    unfold wdsM at h
    cases e : wdsM p ws i with
    | none => rw [e] at h; cases h
    | some y =>
      obtain ⟨q, l⟩ := y
      rw [e] at h
      simp only at h
      by_cases hji : j = i
      · rw [hji]; exact wd1_size h
      · exact wdsM_pre e j (by omega)
theorem wdsM_none {p : Pt} {ws : List ByteArray} {i : Nat} (h : wdsM p ws i = none) : ∀ k, wdsM p ws (i + k) = none
  | 0 => h
  | k + 1 => by
    show wdsM p ws (i + k + 1) = none
    unfold wdsM
    rw [wdsM_none h k]
theorem join_snoc (sep : List UInt8) : ∀ (xs : List (List UInt8)) (y : List UInt8), Lib.join (xs ++ [y]) sep = if xs = [] then y else Lib.join xs sep ++ sep ++ y
  | [], y => by simp [Lib.join, List.intercalate]
  | [x], y => by simp [Lib.join, List.intercalate]
  | x :: z :: r, y => by
    have ih := join_snoc sep (z :: r) y
    rw [if_neg (by simp)] at ih ⊢
    have e : ∀ (a b : List UInt8) (l : List (List UInt8)), Lib.join (a :: b :: l) sep = a ++ sep ++ Lib.join (b :: l) sep := fun a b l => by simp [Lib.join, List.intercalate]
    rw [List.cons_append, List.cons_append, e, ← List.cons_append, ih, e]
    simp
theorem nmN_join (nm : ByteArray) (ws : List ByteArray) : ∀ i, i ≤ ws.length → toL (nmN nm ws i) = toL nm ++ Lib.join ((ws.take i).map toL) [43]
  | 0, _ => by simp [nmN, Lib.join, List.intercalate]
  | i + 1, h => by
    have ih := nmN_join nm ws i (by omega)
    have hi : i < ws.length := by omega
    rw [List.take_add_one, List.getElem?_eq_getElem hi]
    simp only [Option.toList, List.map_append, List.map_cons, List.map_nil]
    rw [join_snoc]
    have hg : ws.getD i ⟨#[]⟩ = ws[i] := by simp [List.getD, hi]
    unfold nmN
    rw [hg]
    have ha : ∀ a b : ByteArray, toL (a ++ b) = toL a ++ toL b := fun a b => by simp [toL]
    by_cases h0 : i = 0
    · subst h0
      rw [if_pos rfl, if_pos (by simp), ha]
      rfl
    · rw [if_neg h0, if_neg (by simp [h0]; intro e; rw [e] at hi; simp at hi), ha, ha, ih]
      simp [toL]
theorem join_len : ∀ (xs : List (List UInt8)), (∀ x ∈ xs, x.length ≤ 8) → (Lib.join xs [43]).length ≤ 9 * xs.length
  | [], _ => by simp [Lib.join, List.intercalate]
  | [x], h => by
    have := h x (by simp)
    simp [Lib.join, List.intercalate]
    omega
  | x :: z :: r, h => by
    have ih := join_len (z :: r) (fun y hy => h y (List.mem_cons_of_mem _ hy))
    have h1 := h x List.mem_cons_self
    have e : Lib.join (x :: z :: r) [43] = x ++ [43] ++ Lib.join (z :: r) [43] := by simp [Lib.join, List.intercalate]
    rw [e, List.length_append, List.length_append]
    simp only [List.length_cons, List.length_nil] at ih ⊢
    omega
end Go.Pat
/- names of protocols, as data: the document's chapter 16 -/
namespace Go.Pat
def upB (c : Nat) : Bool := (decide (65 ≤ c) && decide (c ≤ 90)) || (decide (48 ≤ c) && decide (c ≤ 57))
def loB (c : Nat) : Bool := (decide (97 ≤ c) && decide (c ≤ 122)) || (decide (48 ≤ c) && decide (c ≤ 57))
def dgB (c : Nat) : Bool := decide (48 ≤ c) && decide (c ≤ 57)
def hdN : ByteArray := ⟨#[78, 111, 105, 115, 101, 95]⟩
def tlN : ByteArray := ⟨#[95, 50, 53, 53, 49, 57, 95, 67, 104, 97, 67, 104, 97, 80, 111, 108, 121, 95, 66, 76, 65, 75, 69, 50, 115]⟩
/-- Words' loop, behind k rounds: where the word begins, the words so far -/
def wst (s : ByteArray) : Nat → Option (Nat × List ByteArray)
  | 0 => some (0, [])
  | k + 1 => match wst s k with
    | none => none
    | some (f, out) =>
      if k < s.size ∧ loB (byt s k) = true then some (f, out)
      else if k < s.size ∧ byt s k ≠ 43 then none
      else if (s.extract f k).size = 0 ∨ dgB (byt (s.extract f k) 0) = true then none
      else some (k + 1, out ++ [s.extract f k])
def nwd (s : ByteArray) : Option (List ByteArray) := if s.size = 0 then some [] else (wst s (s.size + 1)).map (·.2)
def nfl (t : ByteArray) : Option ByteArray :=
  if 255 < t.size ∨ t.size < 31 then none
  else if t.extract 0 6 ≠ hdN ∨ t.extract (t.size - 25) t.size ≠ tlN then none
  else some (t.extract 6 (t.size - 25))
/-- how many signs of a base stand ahead -/
def nup (s : ByteArray) : Nat := ((toL s).takeWhile fun c => upB c.toNat).length
def nprs (t : ByteArray) : Pt × Int :=
  match nfl t with
  | none => (zPt, 13)
  | some full => match tbI (full.extract 0 (nup full)), nwd (full.extract (nup full) full.size) with
    | some p, some ws => if ws.length = 0 then (p, 0) else if (mdf p ws).2 ≠ 0 then (zPt, 13) else ((mdf p ws).1, 0)
    | _, _ => (zPt, 13)
def nprn (full : ByteArray) : ByteArray × Int := if (nprs (hdN ++ full ++ tlN)).2 ≠ 0 then (⟨#[]⟩, 13) else (hdN ++ full ++ tlN, 0)
theorem takeW_len (p : UInt8 → Bool) : ∀ (l : List UInt8) (n : Nat), (∀ j, j < n → p (l.getD j 0) = true) → n ≤ l.length → (n = l.length ∨ p (l.getD n 0) = false) → (l.takeWhile p).length = n
  | [], n, _, hn, _ => by simp at hn; simp [hn]
  | a :: l, 0, _, _, he => by
    rcases he with he | he
    · simp at he
    · have h0 : p a = false := he
      simp [List.takeWhile, h0]
  | a :: l, n + 1, h, hn, he => by
    have h0 : p a = true := h 0 (by omega)
    have ih := takeW_len p l n (fun j hj => h (j + 1) (by omega)) (by simpa using hn) (by
      rcases he with he | he
      · left; simpa using he
      · right; exact he)
    simp [List.takeWhile, h0, ih]
theorem nup_at {s : ByteArray} {n : Nat} (h : ∀ j, j < n → upB (byt s j) = true) (hn : n ≤ s.size) (he : n = s.size ∨ upB (byt s n) = false) : nup s = n := by
  have hl : (toL s).length = s.size := toL_len s
  exact takeW_len _ (toL s) n h (by omega) (by rw [hl]; exact he)
theorem nup_le (s : ByteArray) : nup s ≤ s.size := by
  have hl : (toL s).length = s.size := toL_len s
  unfold nup
  rw [← hl]
  exact List.Sublist.length_le (List.takeWhile_sublist _)
theorem wst_none {s : ByteArray} {k : Nat} (h : wst s k = none) : ∀ m, k ≤ m → wst s m = none
  | 0, hm => by
    obtain rfl : k = 0 := by omega
    exact h
  | m + 1, hm => by
    by_cases e : k = m + 1
    · rw [← e]; exact h
    · unfold wst
      rw [wst_none h m (by omega)]
theorem nwd_none {s : ByteArray} {k : Nat} (h0 : s.size ≠ 0) (h : wst s k = none) (hk : k ≤ s.size + 1) : nwd s = none := by
  unfold nwd
  rw [if_neg h0, wst_none h _ hk]
  rfl
theorem wst_step {s : ByteArray} {k f : Nat} {out : List ByteArray} (h : wst s k = some (f, out)) : wst s (k + 1) = if k < s.size ∧ loB (byt s k) = true then some (f, out) else if k < s.size ∧ byt s k ≠ 43 then none else if (s.extract f k).size = 0 ∨ dgB (byt (s.extract f k) 0) = true then none else some (k + 1, out ++ [s.extract f k]) := by
  conv => lhs; unfold wst
  rw [h]
end Go.Pat
