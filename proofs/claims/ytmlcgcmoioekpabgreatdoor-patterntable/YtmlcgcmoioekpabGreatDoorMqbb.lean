import Derived.Shelf.SlIter.Nil
import Derived.Shelf.SortM.Plain
import Derived.Shelf.SortM.SortNone
import Derived.Ground.GgzProg
import Derived.Ground.SlgmProg
import Derived.Test.YtmlcgcmoioekpabGreatDoorProg
import Derived.BigQuiet
import Derived.Deep.QuietTactic
import Derived.Test.YtmlcgcmoioekpabGreatDoorMqba
import Derived.Test.YtmlcgcmoioekpabGreatDoorMqab
import Derived.Test.YtmlcgcmoioekpabGreatDoorMqaf
/- slices.Sorted(maps.Keys(m)), laid at this program -/
namespace Go.Proofs
set_option linter.unusedVariables false
open Go.RowKit Go.Maps Go.Sort Go.Shelf
def Tryz.keys44_ren : Go.Shelf.Ren := ⟨fun | 7 => 44 | 10 => 71 | n => n, fun | 23 => 78 | 26 => 9 | 3 => 85 | 28 => 82 | 0 => 0 | 27 => 81 | 33 => 60 | 4 => 4 | n => n, fun | n => n⟩
theorem Tryz.keys44 : Go.Proofs.SlLaysZ.n7 Tryz.prog Tryz.keys44_ren := {
  mixed := by kernel_rfl
  f7 := ⟨Tryz.f44.name, by decide, Tryz.func44.trans (congrArg some (by kernel_rfl))⟩
  f10 := ⟨Tryz.f71.name, by decide, Tryz.func71.trans (congrArg some (by kernel_rfl))⟩
  t0 := Tryz.underlying0
  a0 := Tryz.isAgg0
  z0 := Tryz.sizeOf0
  v0 := Tryz.zeroValue0
  t4 := Tryz.underlying4
  a4 := Tryz.isAgg4
  z4 := Tryz.sizeOf4
  v4 := Tryz.zeroValue4
  t23 := Tryz.underlying78
  a23 := Tryz.isAgg78
  z23 := Tryz.sizeOf78
  v23 := Tryz.zeroValue78
  t26 := Tryz.underlying9
  a26 := Tryz.isAgg9
  z26 := Tryz.sizeOf9
  v26 := Tryz.zeroValue9
  t27 := Tryz.underlying81
  a27 := Tryz.isAgg81
  z27 := Tryz.sizeOf81
  v27 := Tryz.zeroValue81
  t28 := Tryz.underlying82
  a28 := Tryz.isAgg82
  z28 := Tryz.sizeOf82
  v28 := Tryz.zeroValue82
  t33 := Tryz.underlying60
  a33 := Tryz.isAgg60
  z33 := Tryz.sizeOf60
  v33 := Tryz.zeroValue60 }
def Tryz.sorted43_ren : Go.Shelf.Ren := ⟨fun | 6 => 43 | 8 => 69 | 9 => 70 | 11 => 82 | 13 => 78 | 12 => 83 | 23 => 97 | 24 => 98 | 14 => 101 | 15 => 102 | 16 => 103 | 17 => 104 | 18 => 105 | 19 => 106 | 20 => 107 | 21 => 108 | 22 => 109 | 25 => 119 | 26 => 113 | 27 => 114 | 28 => 120 | 29 => 121 | 30 => 122 | 31 => 124 | n => n, fun | 26 => 9 | 28 => 82 | 24 => 38 | 0 => 0 | 3 => 3 | 37 => 131 | 48 => 147 | 50 => 149 | 4 => 4 | 40 => 140 | 39 => 139 | 45 => 73 | 5 => 5 | 9 => 9 | 51 => 157 | 55 => 161 | 57 => 165 | 58 => 166 | 33 => 60 | n => n, fun | n => n⟩
theorem Tryz.sorted43 : Go.Proofs.SlLaysZ.n6 Tryz.prog Tryz.sorted43_ren := {
  mixed := by kernel_rfl
  f6 := ⟨Tryz.f43.name, by decide, Tryz.func43.trans (congrArg some (by kernel_rfl))⟩
  f8 := ⟨Tryz.f69.name, by decide, Tryz.func69.trans (congrArg some (by kernel_rfl))⟩
  f11 := ⟨Tryz.f82.name, by decide, Tryz.func82.trans (congrArg some (by kernel_rfl))⟩
  t0 := Tryz.underlying0
  a0 := Tryz.isAgg0
  z0 := Tryz.sizeOf0
  v0 := Tryz.zeroValue0
  t24 := Tryz.underlying38
  a24 := Tryz.isAgg38
  z24 := Tryz.sizeOf38
  v24 := Tryz.zeroValue38
  t26 := Tryz.underlying9
  a26 := Tryz.isAgg9
  z26 := Tryz.sizeOf9
  v26 := Tryz.zeroValue9
  t28 := Tryz.underlying82
  a28 := Tryz.isAgg82
  z28 := Tryz.sizeOf82
  v28 := Tryz.zeroValue82
  i26 := by kernel_rfl }
def Tryz.sort70_ren : Go.Shelf.Ren := ⟨fun | 6 => 70 | 8 => 78 | 9 => 83 | 19 => 97 | 20 => 98 | 21 => 101 | 22 => 102 | 23 => 103 | 24 => 104 | 25 => 105 | 26 => 106 | 27 => 107 | 28 => 108 | 29 => 109 | 36 => 119 | 31 => 113 | 32 => 114 | 37 => 120 | 38 => 121 | 39 => 122 | 41 => 124 | n => n, fun | 27 => 38 | 29 => 9 | 3 => 3 | 32 => 131 | 26 => 38 | 0 => 0 | 44 => 147 | 46 => 149 | 4 => 4 | 36 => 140 | 35 => 139 | 41 => 73 | 5 => 5 | 9 => 9 | 53 => 157 | 57 => 161 | 63 => 165 | 64 => 166 | n => n, fun | n => n⟩
theorem Tryz.sort70 : Go.Proofs.SlLaysM.n6 Tryz.prog Tryz.sort70_ren := {
  mixed := by kernel_rfl
  f6 := ⟨Tryz.f70.name, by decide, Tryz.func70.trans (congrArg some (by kernel_rfl))⟩
  f8 := Tryz.func78.trans (congrArg some (by kernel_rfl))
  f9 := ⟨Tryz.f83.name, by decide, Tryz.func83.trans (congrArg some (by kernel_rfl))⟩
  f19 := Tryz.func97.trans (congrArg some (by kernel_rfl))
  f20 := Tryz.func98.trans (congrArg some (by kernel_rfl))
  f21 := ⟨Tryz.f101.name, by decide, Tryz.func101.trans (congrArg some (by kernel_rfl))⟩
  f22 := ⟨Tryz.f102.name, by decide, Tryz.func102.trans (congrArg some (by kernel_rfl))⟩
  f23 := ⟨Tryz.f103.name, by decide, Tryz.func103.trans (congrArg some (by kernel_rfl))⟩
  f24 := ⟨Tryz.f104.name, by decide, Tryz.func104.trans (congrArg some (by kernel_rfl))⟩
  f25 := ⟨Tryz.f105.name, by decide, Tryz.func105.trans (congrArg some (by kernel_rfl))⟩
  f26 := ⟨Tryz.f106.name, by decide, Tryz.func106.trans (congrArg some (by kernel_rfl))⟩
  f27 := ⟨Tryz.f107.name, by decide, Tryz.func107.trans (congrArg some (by kernel_rfl))⟩
  f28 := ⟨Tryz.f108.name, by decide, Tryz.func108.trans (congrArg some (by kernel_rfl))⟩
  f29 := ⟨Tryz.f109.name, by decide, Tryz.func109.trans (congrArg some (by kernel_rfl))⟩
  f31 := Tryz.func113.trans (congrArg some (by kernel_rfl))
  f32 := Tryz.func114.trans (congrArg some (by kernel_rfl))
  f36 := ⟨Tryz.f119.name, by decide, Tryz.func119.trans (congrArg some (by kernel_rfl))⟩
  f37 := ⟨Tryz.f120.name, by decide, Tryz.func120.trans (congrArg some (by kernel_rfl))⟩
  f38 := ⟨Tryz.f121.name, by decide, Tryz.func121.trans (congrArg some (by kernel_rfl))⟩
  f39 := ⟨Tryz.f122.name, by decide, Tryz.func122.trans (congrArg some (by kernel_rfl))⟩
  f41 := ⟨Tryz.f124.name, by decide, Tryz.func124.trans (congrArg some (by kernel_rfl))⟩
  t0 := Tryz.underlying0
  a0 := Tryz.isAgg0
  z0 := Tryz.sizeOf0
  v0 := Tryz.zeroValue0
  t3 := Tryz.underlying3
  a3 := Tryz.isAgg3
  z3 := Tryz.sizeOf3
  v3 := Tryz.zeroValue3
  t4 := Tryz.underlying4
  a4 := Tryz.isAgg4
  z4 := Tryz.sizeOf4
  v4 := Tryz.zeroValue4
  t5 := Tryz.underlying5
  a5 := Tryz.isAgg5
  z5 := Tryz.sizeOf5
  v5 := Tryz.zeroValue5
  t9 := Tryz.underlying9
  a9 := Tryz.isAgg9
  z9 := Tryz.sizeOf9
  v9 := Tryz.zeroValue9
  t26 := Tryz.underlying38
  a26 := Tryz.isAgg38
  z26 := Tryz.sizeOf38
  v26 := Tryz.zeroValue38
  t27 := Tryz.underlying38
  a27 := Tryz.isAgg38
  z27 := Tryz.sizeOf38
  v27 := Tryz.zeroValue38
  t29 := Tryz.underlying9
  a29 := Tryz.isAgg9
  z29 := Tryz.sizeOf9
  v29 := Tryz.zeroValue9
  t32 := Tryz.underlying131
  a32 := Tryz.isAgg131
  z32 := Tryz.sizeOf131
  v32 := Tryz.zeroValue131
  t35 := Tryz.underlying139
  a35 := Tryz.isAgg139
  z35 := Tryz.sizeOf139
  v35 := Tryz.zeroValue139
  t36 := Tryz.underlying140
  a36 := Tryz.isAgg140
  z36 := Tryz.sizeOf140
  v36 := Tryz.zeroValue140
  t41 := Tryz.underlying73
  a41 := Tryz.isAgg73
  z41 := Tryz.sizeOf73
  v41 := Tryz.zeroValue73
  t44 := Tryz.underlying147
  a44 := Tryz.isAgg147
  z44 := Tryz.sizeOf147
  v44 := Tryz.zeroValue147
  t46 := Tryz.underlying149
  a46 := Tryz.isAgg149
  z46 := Tryz.sizeOf149
  v46 := Tryz.zeroValue149
  t53 := Tryz.underlying157
  a53 := Tryz.isAgg157
  z53 := Tryz.sizeOf157
  v53 := Tryz.zeroValue157
  t57 := Tryz.underlying161
  a57 := Tryz.isAgg161
  z57 := Tryz.sizeOf161
  v57 := Tryz.zeroValue161
  t63 := Tryz.underlying165
  a63 := Tryz.isAgg165
  z63 := Tryz.sizeOf165
  v63 := Tryz.zeroValue165
  t64 := Tryz.underlying166
  a64 := Tryz.isAgg166
  z64 := Tryz.sizeOf166
  v64 := Tryz.zeroValue166 }
theorem Tryz.sorts43 (m : Nat) : AnyZ.SortsIn Tryz.prog Tryz.sorted43_ren Fence.wide m :=
  ⟨fun blk off cap ss W hH hblk hsz => callsIn_wide.2 (AnyM.slices_Sort_string Tryz.sort70 blk off cap ss W hH hblk hsz),
   fun p cap W => callsIn_wide.2 (AnyM.slices_Sort_string_none Tryz.sort70 p cap W)⟩

theorem Tryz.maps_Keys_44 (mb : Option Nat) (W : World) : CallsIn Fence.wide 5 Tryz.prog 44 #[.map mb] W fun e w' => e = .returned (.func (.func 71) #[] #[.pointer (some ⟨W.heap.size, 0, none⟩)]) ∧ w' = W.alloc (.cells #[.map mb] 78) :=
  AnyZ.keys_in Tryz.keys44 Fence.wide 5 trivial rfl mb W

set_option maxHeartbeats 1000000 in
theorem Tryz.slices_Sorted_keys_43_44 {H : Type} (b nn : Nat) (D0 : DataW H) (R : Value → Option (DataW H × List MemPlace)) (w : World) (hown : w.ownsMap Tryz.prog 9 R b nn D0) (hmax : Maps.size D0 ≤ maxLen) (hbytes : Maps.size D0 * 16 ≤ 140737488355328) :
    CallsIn Fence.wide 5 Tryz.prog 43 #[.func (.func 71) #[] #[.pointer (some ⟨w.heap.size, 0, none⟩)]] (w.alloc (.cells #[.map (some b)] 78)) fun e w' => ∃ (v : Value) (ss : List (List UInt8)), e = .returned v ∧ ss.Perm (strKeys D0) ∧
      w'.ownsRow (w.alloc (.cells #[.map (some b)] 78)).heap.size 9 1 v ss.length ((ss.mergeSort (fun x y => decide (x ≤ y))).map encStr) ∧ (v = .slice none 0 0 ↔ ss = []) ∧ Below (w.alloc (.cells #[.map (some b)] 78)).heap.size (w.alloc (.cells #[.map (some b)] 78)) w' := by
  have hbl := hown.lt
  have hseq : SeqGives Fence.wide 2 Tryz.prog 71 #[.pointer (some ⟨w.heap.size, 0, none⟩)] encStr (fun ss => ss.Perm (strKeys D0)) (Maps.size D0) (w.alloc (.cells #[.map (some b)] 78)) :=
    AnyZ.keys_gives (ρ := Tryz.keys44_ren) { Tryz.keys44 with } Fence.wide _ trivial rfl (by omega) w.heap.size b nn D0 _ (by simp) (by simp) (by
      obtain ⟨es, clock, hb, Ft, hs, hD⟩ := hown
      exact ⟨es, clock, (Below.heap_alloc _ _ b hbl).trans hb, Ft, hs, hD⟩)
  exact AnyZ.sorted_in Tryz.sorted43 Fence.wide 5 trivial trivial trivial trivial rfl (by omega) (Tryz.sorts43 _) (enters_of Tryz.func70 (by kernel_rfl) rfl) 71 #[.pointer (some ⟨w.heap.size, 0, none⟩)] trivial (enters_of Tryz.func71 (by kernel_rfl) rfl) _ _ hmax hbytes _ hseq
end Go.Proofs
namespace Go.Proofs.YtmlcgcmoioekpabGreatDoor
set_option linter.unusedSimpArgs false
set_option linter.unusedVariables false
set_option maxRecDepth 100000
open Go.ChangeShapes Go.WideShapes Go.ChangeAt Go.RowKit Go.Pin Go.Pat Go.Deep
open Go.ChangeMaps (setBlock)
open Go.WideElems (Fit rd rg)
/-- how an element of the table reads: it is there -/
def entR (v : Value) : Option (DataW Unit × List MemPlace) := match v with
  | .agg _ => some (.lit (.bool true), [])
  | _ => none
theorem ents_mem : ∀ (L : List (ByteArray × ByteArray)) (c : Nat) (x : MapEntry), x ∈ ents L c → ∃ e, e ∈ L ∧ x.key = .string e.1
  | [], c, x, hx => by cases hx
  | e :: r, c, x, hx => by
    rcases List.mem_cons.1 hx with h | h
    · exact ⟨e, List.mem_cons_self, by rw [h]⟩
    · obtain ⟨e', he', h'⟩ := ents_mem r (c + 1) x h
      exact ⟨e', List.mem_cons_of_mem _ he', h'⟩
theorem ents_len : ∀ (L : List (ByteArray × ByteArray)) (c : Nat), (ents L c).length = L.length
  | [], c => rfl
  | e :: r, c => by simp [ents, ents_len r (c + 1)]
theorem fit_ents : ∀ n, n ≤ 38 → Fit Tryz.prog 9 entR (ents (tbl.take n) 0).toArray n
  | 0, _ => ⟨by simp [ents], MapKept.stamped_empty 0, by simp [ents]⟩
  | n + 1, hn => by
    have ih := fit_ents n (by omega)
    have hl : n < tbl.length := by rw [tbl_len]; omega
    have hln : (tbl.take n).length = n := by rw [List.length_take]; omega
    have e1 : tbl.take (n + 1) = tbl.take n ++ [tbl[n]] := by rw [List.take_append_getElem]
    have hsm := List.all_eq_true.1 tbl_small tbl[n] (List.getElem_mem hl)
    simp only [Bool.and_eq_true, decide_eq_true_eq] at hsm
    have hap : ∀ x ∈ (ents (tbl.take n) 0).toArray.toList, x.key ≠ .string tbl[n].1 := by
      intro x hx hk
      obtain ⟨e, he, h'⟩ := ents_mem _ _ x (by simpa using hx)
      rw [h'] at hk
      injection hk with hk
      have hp := of_decide_eq_true tbl_apart
      rw [← List.take_append_drop n tbl, List.pairwise_append] at hp
      refine hp.2.2 e he tbl[n] ?_ hk
      rw [List.drop_eq_getElem_cons hl]
      exact List.mem_cons_self
    have e2 : (ents (tbl.take (n + 1)) 0).toArray = (ents (tbl.take n) 0).toArray.push ⟨.string tbl[n].1, .agg #[.string tbl[n].2], n⟩ := by
      rw [e1, ents_snoc, hln]
      simp
    rw [e2]
    refine ⟨?_, MapKept.stamped_push ih.stamped hap, ?_⟩
    · have := ih.size
      simp [ents_len, hln, maxLen]
      omega
    · intro x hx
      simp only [Array.toList_push, List.mem_append, List.mem_singleton] at hx
      rcases hx with hx | rfl
      · exact ih.reads x hx
      · refine ⟨(.string tbl[n].1.data.toList, .lit (.bool true)), ?_⟩
        simp [rd, Go.WideMaps.keyOf_string_mk (P := Tryz.prog) Tryz.underlying9 (s := tbl[n].1) (by have := hsm.1; unfold maxLen; omega), entR]
/-- the names, as they stand in the table that is asked -/
def nms : List (List UInt8) := tab.map fun p => p.nm.data.toList
theorem nms_sorted : decide (nms.Pairwise fun x y => decide (x ≤ y) = true) = true := by kernel_rfl
theorem OM.owns {g : Nat} {w : World} (h : OM g tbl w) : ∃ D : DataW Unit, w.ownsMap Tryz.prog 9 entR g 38 D ∧ strKeys D = nms ∧ Go.Maps.size D = 38 := by
  refine ⟨.map (((ents tbl 0).map (rg Tryz.prog 9 entR)).foldr DataW.insert []), ⟨_, _, h, fit_ents 38 (Nat.le_refl _), Nat.le_refl _, rfl⟩, ?_, ?_⟩
  · kernel_rfl
  · kernel_rfl
theorem nms_of {ss : List (List UInt8)} {D : DataW Unit} (hD : strKeys D = nms) (h : ss.Perm (strKeys D)) : ss.mergeSort (fun x y => decide (x ≤ y)) = nms := by
  rw [mergeSort_of_perm h, hD]
  exact List.mergeSort_of_pairwise (of_decide_eq_true nms_sorted)
end Go.Proofs.YtmlcgcmoioekpabGreatDoor
namespace Go.Proofs.YtmlcgcmoioekpabGreatDoor
set_option linter.unusedSimpArgs false
set_option linter.unusedVariables false
set_option maxRecDepth 100000
open Go.ChangeShapes Go.WideShapes Go.ChangeAt Go.RowKit Go.Pin Go.Pat Go.Deep
/-- what All keeps: the table and the sorted names -/
structure KT (g r : Nat) (cur : Array Value) (w : World) : Prop where
  om : OM g tbl w
  hr : w.heap[r]? = some (.cells cur 9)
theorem KT.keep {g r n0 : Nat} {cur : Array Value} {w w' : World} (h : KT g r cur w) (hg : n0 ≤ g) (hr : n0 ≤ r) (hk : ∀ k, n0 ≤ k → k < w.heap.size → w'.heap[k]? = w.heap[k]?) : KT g r cur w' :=
  ⟨(hk g hg h.om.lt).trans h.om, (hk r hr (Array.getElem?_eq_some_iff.1 h.hr).1).trans h.hr⟩
theorem KT.below {g r : Nat} {cur : Array Value} {w w' : World} (h : KT g r cur w) (hb : Below w.heap.size w w') : KT g r cur w' :=
  ⟨h.om.below hb, (hb.block r (Array.getElem?_eq_some_iff.1 h.hr).1).trans h.hr⟩
theorem field_entry (t : ByteArray) (w : World) : (Instr.field 85 (.agg #[.string t]) 0).run Tryz.prog w = .ok (.string t) w := by kernel_rfl
/-- what is asked of a yield -/
def YC (n0 F : Nat) (cap : Array Value) (I : Nat → World → Prop) (S : World → Prop) : Prop :=
  ∀ (j : Nat) (W1 W : World) (v0 v1 vl : Value), j < 38 → I j W1 → Below W1.heap.size W1 W → FtP (fun b => W1.heap.size ≤ b ∧ b < W.heap.size) W v0 v1 vl (tab.getD j zPt) →
    Calls Tryz.prog F (#[.agg #[.string (tab.getD j zPt).nm, v0, v1, vl]] ++ cap) W fun e W' => ∃ b : Bool, e = .returned (.bool b) ∧ (∀ k, n0 ≤ k → k < W.heap.size → W'.heap[k]? = W.heap[k]?) ∧ W.heap.size ≤ W'.heap.size ∧ (if b = true then I (j + 1) W' else S W')
/-- the text of a name -/
def txO (k : ByteArray) : ByteArray := ((tbF k).map (fun e => e.2)).getD ⟨#[]⟩
theorem tab_names : (tab.map fun p => tbI p.nm) = tab.map some := by kernel_rfl
theorem nms_look {j : Nat} (hj : j < 38) : (tbF (tab.getD j zPt).nm).isSome = true ∧ prs (txO (tab.getD j zPt).nm) = (tab.getD j zPt, 0) ∧ (txO (tab.getD j zPt).nm).size ≤ 4096 := by
  have hl : j < tab.length := hj
  have h0 := tab_names
  rw [List.map_inj_left] at h0
  have hm : tab.getD j zPt ∈ tab := by rw [show tab.getD j zPt = tab[j] by simp [List.getD, hl]]; exact List.getElem_mem _
  have h2 := h0 _ hm
  unfold txO
  cases hf : tbF (tab.getD j zPt).nm with
  | none => rw [tbF_none hf] at h2; cases h2
  | some e =>
    obtain ⟨ek, em⟩ := tbF_some hf
    obtain ⟨a1, a2, a3⟩ := tbl_at em
    rw [ek, h2] at a1
    exact ⟨rfl, a1, a3⟩
theorem nms_at {j : Nat} (hj : j < 38) : (nms.map Go.Proofs.encStr)[j]? = some (.string (tab.getD j zPt).nm) := by
  have hl : j < tab.length := hj
  simp [nms, List.getElem?_map, hl, List.getD, Go.Proofs.encStr]
theorem sorted_names (n0 : Nat) (w1 : World) (h : OM n0 tbl w1) :
    Calls Tryz.prog 43 #[.func (.func 71) #[] #[.pointer (some ⟨w1.heap.size, 0, none⟩)]] (w1.alloc (.cells #[.map (some n0)] 78)) fun e w3 =>
      ∃ r cp cur, e = .returned (.slice (some ⟨r, 0, none⟩) 38 cp) ∧ 38 ≤ cp ∧ cp ≤ maxLen ∧ (w1.alloc (.cells #[.map (some n0)] 78)).heap.size ≤ r ∧ w3.heap[r]? = some (.cells cur 9) ∧ (∀ j, j < 38 → cur[j]? = some (.string (tab.getD j zPt).nm)) ∧
        Below (w1.alloc (.cells #[.map (some n0)] 78)).heap.size (w1.alloc (.cells #[.map (some n0)] 78)) w3 := by
  obtain ⟨D, hD1, hD2, hD3⟩ := h.owns
  refine (callsIn_wide.1 (Tryz.slices_Sorted_keys_43_44 n0 38 D entR w1 hD1 (by rw [hD3]; unfold maxLen; omega) (by rw [hD3]; omega))).mono ?_
  rintro e w3 ⟨v, ss, rfl, hS, hrow, hnil, hb⟩
  have hlen : ss.length = 38 := by rw [hS.length_eq, hD2]; rfl
  rw [nms_of hD2 hS, hlen] at hrow
  rcases hrow.2 with ⟨_, h⟩ | ⟨r, cp, cur, rfl, hr0, hrr, hc1, hc2, hcz, hct⟩
  · exact absurd h (by decide)
  · refine ⟨r, cp, cur, rfl, hc1, hc2, hr0, hrr, fun j hj => ?_, hb⟩
    rw [← nms_at hj, ← hct, List.getElem?_take]
    simp [hj]
set_option maxHeartbeats 8000000 in
theorem all1_any {ea : Int → Addr} (n0 F : Nat) (cap : Array Value) (I : Nat → World → Prop) (S : World → Prop) (w : World) (hn0 : w.heap.size = n0) (hF : ∀ args w, (callFunc F args).run Tryz.prog w = .ok (.enter F args) w) (hY : YC n0 F cap I S) (hE : ∀ j W, I j W → Errs ea W) (h0 : I 0 w) :
    Calls Tryz.prog 41 #[.func (.func F) #[] cap] w fun e w' => e = .returned (.tuple #[]) ∧ (S w' ∨ I 38 w') := by
  have CT := table_any w
  rw [hn0] at CT
  have HY : Hid _ := hY
  have HE : Hid _ := hE
  have H0 : Hid (I 0 w) := h0
  have HN : Hid (w.heap.size = n0) := hn0
  clear hY hE h0 hn0
  go_enter Tryz.func41, Tryz.ntmps41
  go_upto_region 1 with (first
    | (go_at_call 42; refine CT.mono ?_; rintro e w1 ⟨rfl, hom, hb⟩; have H1 : Hid (OM n0 tbl w1 ∧ Below n0 w w1) := ⟨hom, hb⟩; clear hom hb CT))
  have CK := callsIn_wide.1 (Tryz.maps_Keys_44 (some n0) w1)
  have CS := sorted_names n0 w1 H1.out.1
  have hal : Below n0 w (w1.alloc (.cells #[.map (some n0)] 78)) := H1.out.2.alloc (Nat.le_trans (by rw [← HN.out]; exact Nat.le_refl _) H1.out.2.size) _
  have hom2 : OM n0 tbl (w1.alloc (.cells #[.map (some n0)] 78)) := H1.out.1.below ((Below.refl _ _).alloc (Nat.le_refl _) _)
  have H2 : Hid (Below n0 w (w1.alloc (.cells #[.map (some n0)] 78)) ∧ OM n0 tbl (w1.alloc (.cells #[.map (some n0)] 78))) := ⟨hal, hom2⟩
  clear hal hom2
  go_wp2_with (first
    | (go_at_call 44; refine CK.mono ?_; rintro e w2 ⟨rfl, rfl⟩)
    | (go_at_call 43; refine CS.mono ?_; rintro e w3 ⟨r, cp, cur, rfl, hc1, hc2, hr0, hrr, hat, hb⟩; have H3 : Hid (Below n0 w w3 ∧ KT n0 r cur w3 ∧ n0 ≤ r ∧ (∀ j, j < 38 → cur[j]? = some (.string (tab.getD j zPt).nm))) := ⟨H2.out.1.trans (hb.mono (Nat.le_of_lt H2.out.2.lt)), ⟨H2.out.2.below hb, hrr⟩, Nat.le_trans (Nat.le_of_lt H2.out.2.lt) hr0, hat⟩; clear hat hb hr0 hrr))
  clear CK CS
  go_loopw [12] (fun v12 wr => ∃ (i : Nat) (W1 : World), i ≤ 38 ∧ v12 = .int .i64 i ∧ I i W1 ∧ Below W1.heap.size W1 wr ∧ (0 < i → W1 = wr) ∧ KT n0 r cur wr) (fun v _ => 38 - (intOf v).toNat)
  case atStart => exact ⟨0, w, Nat.zero_le _, rfl, H0.out, by rw [HN.out]; exact H3.out.1, fun h => absurd h (Nat.lt_irrefl _), H3.out.2.1⟩
  case round =>
    obtain ⟨i, W1, hi, rfl, hI, hB, hW, hK⟩ := hrel
    by_cases hlt : i < 38
    · have b1 : (i : Int) < 38 := by omega
      have bn : (0 : Int) ≤ (i : Int) := by omega
      obtain ⟨nm, hnm⟩ : ∃ nm, (tab.getD i zPt).nm = nm := ⟨_, rfl⟩
      have c0 : wr.cell? ⟨r, i, none⟩ = some (.string nm) := by
        rw [cell_of_row _ _ _ _ _ _ hK.hr, H3.out.2.2.2 i hlt, hnm]
      have hl : (Instr.lookup 78 (.map (some n0)) (.string nm) false).run Tryz.prog wr = .ok (.agg #[.string (txO nm)]) wr := run_look hK.om nm false
      obtain ⟨_, hp1, hp2⟩ := nms_look hlt
      rw [hnm] at hp1 hp2
      obtain ⟨tx, htx⟩ : ∃ tx, txO nm = tx := ⟨_, rfl⟩
      rw [htx] at hl hp1 hp2
      have HR : Hid (I i W1 ∧ Below W1.heap.size W1 wr ∧ KT n0 r cur wr) := ⟨hI, hB, hK⟩
      have CP := parse_any' (ea := ea) tx wr ((HE.out i W1 hI).below hB) (by omega)
      unfold PsP at CP
      rw [hp1] at CP
      simp only [EV_0, hnm] at CP
      have HLT : Hid (i < 38) := hlt
      have hfl := field_entry tx
      have HNM : Hid ((tab.getD i zPt).nm = nm) := hnm
      clear hp1 hp2 htx hI hB hW hK hlt hnm
      go_upto_region 5 with (first
        | (go_at_call 10; refine CP.mono ?_; rintro e w4 ⟨hb, v0, v1, vl, rfl, hft⟩; obtain ⟨p0, q0, s0, rfl⟩ := hft.1.sl3; obtain ⟨p1, q1, s1, rfl⟩ := hft.2.1.sl3; obtain ⟨p2, q2, s2, rfl⟩ := hft.2.2.sl3; have H4 : Hid (Below wr.heap.size wr w4 ∧ FtP (fun b => wr.heap.size ≤ b ∧ b < w4.heap.size) w4 (.slice p0 q0 s0) (.slice p1 q1 s1) (.slice p2 q2 s2) (tab.getD i zPt)) := ⟨hb, hft⟩; clear hb hft CP))
      have h5 : Below W1.heap.size W1 (w4.alloc (.cells #[.string nm, .slice p0 q0 s0, .slice p1 q1 s1, .slice p2 q2 s2] 26)) := (HR.out.2.1.trans (H4.out.1.mono HR.out.2.1.size)).alloc (Nat.le_trans HR.out.2.1.size H4.out.1.size) _
      have hf5 : FtP (fun b => W1.heap.size ≤ b ∧ b < w4.heap.size + 1) (w4.alloc (.cells #[.string nm, .slice p0 q0 s0, .slice p1 q1 s1, .slice p2 q2 s2] 26)) (.slice p0 q0 s0) (.slice p1 q1 s1) (.slice p2 q2 s2) (tab.getD i zPt) := (H4.out.2.keep (fun b hb => Below.heap_alloc _ _ _ hb.2)).mono (fun b hb => ⟨Nat.le_trans HR.out.2.1.size hb.1, Nat.lt_succ_of_lt hb.2⟩)
      rw [← size_alloc w4 (.cells #[.string nm, .slice p0 q0 s0, .slice p1 q1 s1, .slice p2 q2 s2] 26)] at hf5
      have hr5 := heap_alloc_new w4 (.cells #[.string nm, .slice p0 q0 s0, .slice p1 q1 s1, .slice p2 q2 s2] 26)
      have hk5 : KT n0 r cur (w4.alloc (.cells #[.string nm, .slice p0 q0 s0, .slice p1 q1 s1, .slice p2 q2 s2] 26)) := HR.out.2.2.below (H4.out.1.alloc H4.out.1.size _)
      obtain ⟨g5, hg5⟩ : ∃ g5, w4.heap.size = g5 := ⟨_, rfl⟩
      obtain ⟨w5, hw5⟩ : ∃ w5, w4.alloc (.cells #[.string nm, .slice p0 q0 s0, .slice p1 q1 s1, .slice p2 q2 s2] 26) = w5 := ⟨_, rfl⟩
      rw [hw5] at h5 hf5 hr5 hk5 ⊢
      simp only [hg5] at hr5 ⊢
      have k0 := cell_of_row w5 g5 0 _ _ _ hr5
      have k1 := cell_of_row w5 g5 1 _ _ _ hr5
      have k2 := cell_of_row w5 g5 2 _ _ _ hr5
      have k3 := cell_of_row w5 g5 3 _ _ _ hr5
      simp at k0 k1 k2 k3
      have CY := HY.out i W1 w5 _ _ _ HLT.out HR.out.1 h5 hf5
      rw [HNM.out] at CY
      have HK5 : Hid (KT n0 r cur w5) := hk5
      clear hw5 hg5 h5 hf5 hr5 c0 hl hfl hk5
      go_upto_region 5 with (fail)
      go_wp2_with (refine CY.mono ?_; rintro e w6 ⟨b, rfl, hkp, hsz, hI⟩; have H6 : Hid (KT n0 r cur w6 ∧ (if b = true then I (i + 1) w6 else S w6)) := ⟨HK5.out.keep (Nat.le_refl _) H3.out.2.2.1 hkp, hI⟩; clear hkp hsz hI CY k0 k1 k2 k3)
      · rename_i hbb
        obtain rfl : b = false := by simpa using hbb
        refine bodyPost_ret (v := .tuple #[]) (by simp [results, Tryz.results41]) rfl ⟨rfl, .inl H6.out.2⟩
      · rename_i hbb
        obtain rfl : b = true := by simpa using hbb
        exact ⟨⟨i + 1, w6, HLT.out, congrArg (Value.int .i64) (Int.natCast_succ i).symm, H6.out.2, Below.refl _ _, fun _ => rfl, H6.out.1⟩, by have := HLT.out; show 38 - ((i : Int) + 1).toNat < 38 - ((i : Int)).toNat; omega⟩
    · have b1 : ¬ (i : Int) < 38 := by omega
      obtain rfl : i = 38 := by omega
      obtain rfl := hW (by decide)
      have HI : Hid (I 38 W1) := hI
      clear hB hK hI
      go_wp2
      go_end0
      exact ⟨rfl, .inr HI.out⟩
end Go.Proofs.YtmlcgcmoioekpabGreatDoor
namespace Go.Proofs.YtmlcgcmoioekpabGreatDoor
set_option linter.unusedSimpArgs false
set_option linter.unusedVariables false
open Go.ChangeShapes Go.WideShapes Go.ChangeAt Go.RowKit Go.Pin Go.Pat
set_option maxRecDepth 100000 in
set_option maxHeartbeats 2000000 in
theorem ints_true {W : World} {u v : Value} {C : List Int} (hu : RdN W u C) (hv : RdN W v C) :
    Calls Tryz.prog 29 #[u, v] W fun e w' => e = .returned (.bool true) ∧ Below W.heap.size W w' := by
  obtain ⟨a, ca, rfl, -, -, -⟩ := id hu
  obtain ⟨b, cb, rfl, -, -, -⟩ := id hv
  obtain ⟨-, hal, hua⟩ := hu.at
  obtain ⟨-, hbl, hvb⟩ := hv.at
  obtain ⟨q, hq⟩ : ∃ q, W.heap.size = q := ⟨_, rfl⟩
  obtain ⟨n, hnl⟩ : ∃ n, C.length = n := ⟨_, rfl⟩
  rw [hnl] at hua hvb hal
  rw [hnl]
  have HN : Hid (n ≤ 140737488355328) := hal
  have HA : Hid _ := hua
  have HB : Hid _ := hvb
  rw [hq]
  clear hu hv hua hvb hbl hal hnl
  go_enter Tryz.func29, Tryz.ntmps29
  go_wp2
  go_loopw [5] (fun v5 wr => ∃ i : Nat, i ≤ n ∧ v5 = .int .i64 i ∧ Below q W wr) (fun v _ => n - (intOf v).toNat)
  case atStart => exact ⟨0, Nat.zero_le _, rfl, Below.refl _ _⟩
  case round =>
    obtain ⟨i, hi, rfl, hp⟩ := hrel
    have HP : Hid (Below q W wr) := hp
    by_cases hlt : i < n
    · have b1 : (i : Int) < (n : Int) := by omega
      obtain ⟨g, o, rfl, h1⟩ := HA.out i hlt
      obtain ⟨g', o', rfl, h2⟩ := HB.out i hlt
      have c := h1 wr (by rw [hq]; exact hp)
      have d := h2 wr (by rw [hq]; exact hp)
      generalize C.getD i 0 = x at *
      clear h1 h2 hp
      go_wp2
      go_quiet (fail)
      go_wp2
      exact ⟨⟨i + 1, hlt, congrArg (Value.int .i64) (wrapS hlt HN.out), drewN_below HP.out _⟩, measS hlt HN.out⟩
    · have b1 : ¬ (i : Int) < (n : Int) := by omega
      clear hp
      go_wp2
      go_ret
      exact ⟨rfl, HP.out⟩
theorem pb2 {q : Nat} {w wr : World} {nm nm' : ByteArray} {v0 v1 vl v0' v1' vl' : Value} (h : PB q w nm v0 v1 vl wr) : PB q w nm v0 v1 vl (wr.alloc (.cells #[.string nm', v0', v1', vl'] 26)) := h.below ((Below.refl _ _).alloc (Nat.le_refl _) _)
set_option maxRecDepth 100000 in
set_option maxHeartbeats 4000000 in
theorem same_true {W : World} {u v : Value} {p : Pt} (hu : RdP W u p) (hv : RdP W v p) :
    Calls Tryz.prog 11 #[u, v] W fun e w' => e = .returned (.bool true) ∧ Below W.heap.size W w' := by
  obtain ⟨v0, v1, vl, rfl, h0, h1, hl⟩ := hu
  obtain ⟨u0, u1, ul, rfl, g0, g1, gl⟩ := hv
  obtain ⟨a0, p0, rfl, -, -, -⟩ := id h0
  obtain ⟨a1, p1, rfl, -, -, -⟩ := id h1
  obtain ⟨al, cl, rfl, -, hll, -⟩ := id hl
  obtain ⟨e0, k0, rfl, -, -, -⟩ := id g0
  obtain ⟨e1, k1, rfl, -, -, -⟩ := id g1
  obtain ⟨el, kl, rfl, -, -, -⟩ := id gl
  have hst := pb_start W p.nm (.slice a0 p.b0.length p0) (.slice a1 p.b1.length p1) (.slice al p.ln.length cl)
  have hb1 : Below W.heap.size W (W.alloc (.cells #[.string p.nm, .slice a0 p.b0.length p0, .slice a1 p.b1.length p1, .slice al p.ln.length cl] 26)) := hst.old
  have hs2 := pb_start (W.alloc (.cells #[.string p.nm, .slice a0 p.b0.length p0, .slice a1 p.b1.length p1, .slice al p.ln.length cl] 26)) p.nm (.slice e0 p.b0.length k0) (.slice e1 p.b1.length k1) (.slice el p.ln.length kl)
  have hst2 := hst.below hs2.old
  have hb2 := hb1.trans (hs2.old.mono hb1.size)
  have hH0 := fun Y (hY : Below W.heap.size W Y) => ints_true (h0.below hY) (g0.below hY)
  have hH1 := fun Y (hY : Below W.heap.size W Y) => ints_true (h1.below hY) (g1.below hY)
  have hHL := fun Y (hY : Below W.heap.size W Y) => hl.below hY
  have hGL := fun Y (hY : Below W.heap.size W Y) => gl.below hY
  obtain ⟨q, hq⟩ : ∃ q, W.heap.size = q := ⟨_, rfl⟩
  obtain ⟨nm, hnm⟩ : ∃ nm, p.nm = nm := ⟨_, rfl⟩
  obtain ⟨x0, hx0⟩ : ∃ x0, Value.slice a0 p.b0.length p0 = x0 := ⟨_, rfl⟩
  obtain ⟨x1, hx1⟩ : ∃ x1, Value.slice a1 p.b1.length p1 = x1 := ⟨_, rfl⟩
  obtain ⟨y0, hy0⟩ : ∃ y0, Value.slice e0 p.b0.length k0 = y0 := ⟨_, rfl⟩
  obtain ⟨y1, hy1⟩ : ∃ y1, Value.slice e1 p.b1.length k1 = y1 := ⟨_, rfl⟩
  obtain ⟨L, hLn⟩ : ∃ L, p.ln.length = L := ⟨_, rfl⟩
  have hsz : (W.alloc (.cells #[.string p.nm, .slice a0 p.b0.length p0, .slice a1 p.b1.length p1, .slice al p.ln.length cl] 26)).heap.size = q + 1 := by rw [size_alloc, hq]
  rw [hsz] at hs2
  simp only [hq, hnm, hx0, hx1, hy0, hy1, hLn] at hst2 hs2 hb2 hH0 hH1 hHL hGL hll ⊢
  obtain ⟨W1, hW1⟩ : ∃ W1, W.alloc (.cells #[.string nm, x0, x1, .slice al L cl] 26) = W1 := ⟨_, rfl⟩
  simp only [hW1] at hst2 hs2 hb2
  obtain ⟨W2, hW2⟩ : ∃ W2, W1.alloc (.cells #[.string nm, y0, y1, .slice el L kl] 26) = W2 := ⟨_, rfl⟩
  simp only [hW2] at hst2 hs2 hb2
  have hz1 : W1.heap.size = q + 1 := by rw [← hW1, size_alloc, hq]
  have HI0 : Hid _ := hH0
  have HI1 : Hid _ := hH1
  have HHL : Hid _ := hHL
  have HGL : Hid _ := hGL
  have HP : Hid (PB q W nm x0 x1 (.slice al L cl) W2) := hst2
  have HQ : Hid (PB (q + 1) W1 nm y0 y1 (.slice el L kl) W2) := hs2
  have HB : Hid (Below q W W2) := hb2
  have HL : Hid (L ≤ 140737488355328 ∧ p.ln.length = L) := ⟨hll, hLn⟩
  have c0 := hst2.c0
  have c1 := hst2.c1
  have c2 := hst2.c2
  have c3 := hst2.c3
  have d0 := hs2.c0
  have d1 := hs2.c1
  have d2 := hs2.c2
  have d3 := hs2.c3
  have CI0 := HI0.out W2 HB.out
  clear hst hst2 hs2 hb1 hb2 hH0 hH1 hHL hGL hll h0 h1 hl g0 g1 gl hx0 hx1 hy0 hy1 hLn hnm hsz
  go_enter Tryz.func11, Tryz.ntmps11
  go_upto_region 3 with (first
    | (go_at_call 29; refine Calls.mono CI0 ?_; rintro e w1 ⟨rfl, hb⟩; have HP1 : Hid (PB q W nm x0 x1 (.slice al L cl) w1) := HP.out.below hb; have HQ1 : Hid (PB (q + 1) W1 nm y0 y1 (.slice el L kl) w1) := HQ.out.below hb; have HB1 : Hid (Below q W w1) := HP1.out.old; clear hb c0 c1 c2 c3 d0 d1 d2 d3 CI0; have c0 := HP1.out.c0; have c1 := HP1.out.c1; have c2 := HP1.out.c2; have c3 := HP1.out.c3; have d0 := HQ1.out.c0; have d1 := HQ1.out.c1; have d2 := HQ1.out.c2; have d3 := HQ1.out.c3; have CI1 := HI1.out w1 HB1.out)
    | (go_at_call 29; refine Calls.mono CI1 ?_; rintro e w2 ⟨rfl, hb⟩; have HP2 : Hid (PB q W nm x0 x1 (.slice al L cl) w2) := HP1.out.below hb; have HQ2 : Hid (PB (q + 1) W1 nm y0 y1 (.slice el L kl) w2) := HQ1.out.below hb; clear hb c0 c1 c2 c3 d0 d1 d2 d3 CI1; have c3 := HP2.out.c3; have d3 := HQ2.out.c3))
  clear c3 d3
  go_wp2
  go_loopw [5] (fun v5 wr => ∃ i : Nat, i ≤ L ∧ v5 = .int .i64 i ∧ PB q W nm x0 x1 (.slice al L cl) wr ∧ PB (q + 1) W1 nm y0 y1 (.slice el L kl) wr) (fun v _ => L - (intOf v).toNat)
  case atStart => exact ⟨0, Nat.zero_le _, rfl, HP2.out, HQ2.out⟩
  case round =>
    obtain ⟨i, hi, rfl, hp, hqq⟩ := hrel
    have HPR : Hid (PB q W nm x0 x1 (.slice al L cl) wr) := hp
    have HQR : Hid (PB (q + 1) W1 nm y0 y1 (.slice el L kl) wr) := hqq
    have c3 := hp.c3
    have d3 := hqq.c3
    by_cases hlt : i < L
    · have b1 : (i : Int) < (L : Int) := by omega
      obtain ⟨b, o, a2, n2, c2, rfl, hc, hn, hn2⟩ := (HHL.out wr hp.old).at hlt
      obtain ⟨b', o', a2', n2', c2', rfl, hc', hn', hn2'⟩ := (HGL.out wr hp.old).at hlt
      have en : n2' = n2 := by rw [hn2, hn2']
      subst en
      have HII : Hid (∀ Y, Below wr.heap.size wr Y → _) := fun Y hY => ints_true (hn.below hY) (hn'.below hY)
      have HC : Hid _ := hc
      have HC' : Hid _ := hc'
      generalize (p.ln.getD i (0, [])).1 = f at *
      clear hc hc' hn hn' hp hqq hn2 hn2'
      go_wp2
      refine Go.Pin.wp_region_cls (fun Y => Below wr.heap.size wr Y) (by kernel_rfl) (by kernel_rfl) ((Below.refl _ _).drew) ?_
      intro Sq fq hNq hRq hSq
      have z0 := fun x => (HPR.out.below (hRq x)).c3
      have z1 := fun x => (HQR.out.below (hRq x)).c3
      have k0 := fun x => (HC.out _ (hRq x)).1
      have k1 := fun x => (HC.out _ (hRq x)).2
      have l0 := fun x => (HC'.out _ (hRq x)).1
      have l1 := fun x => (HC'.out _ (hRq x)).2
      have CF := fun x => HII.out (fq x) (hRq x)
      repeat (go_big_quiet_step (exact (CF _).mono (fun e w' h => ⟨h.1, hSq _ ((hRq _).trans (h.2.mono (hRq _).size))⟩)))
      refine wpQuiet_nil ?_
      intro _ hw'
      obtain ⟨xq, hw''⟩ := hw'
      subst hw''
      have HYq := hRq xq
      generalize fq xq = Y at HYq ⊢
      clear hRq hSq hNq xq fq Sq z0 z1 k0 k1 l0 l1 CF c3 d3
      have HY : Hid (Below wr.heap.size wr Y) := HYq
      clear HYq
      go_wp2
      exact ⟨⟨i + 1, hlt, congrArg (Value.int .i64) (wrapS hlt HL.out.1), HPR.out.below HY.out, HQR.out.below HY.out⟩, measS hlt HL.out.1⟩
    · have b1 : ¬ (i : Int) < (L : Int) := by omega
      clear hp hqq
      go_wp2
      go_ret
      exact ⟨rfl, HPR.out.old⟩
end Go.Proofs.YtmlcgcmoioekpabGreatDoor
/- as wp_region_cls, for a long region: the lexical walk looks at no edge and no place of the text: both are taken off first; of no dump -/
namespace Go.Pin
def bare (o : Oper) : Oper := { dst := o.dst, op := o.op, type := o.type, pos := "", after := #[], guard := o.guard }
theorem yielded_bare (ops : Array Oper) (t : Array Value) : yielded (ops.map bare) t = yielded ops t := by
  funext j
  unfold yielded
  rw [Array.getElem?_map]
  cases ops[j]? <;> rfl
theorem quiet_bare {P : Program} {o : Oper} {a : Act} {C : World → Prop} {K K' : Act → Prop} (h : (bare o).quiet P a C K') (hk : ∀ a, K' a → K a) : o.quiet P a C K := by
  obtain ⟨v, h1, h2⟩ := h
  exact ⟨v, h1, hk _ h2⟩
theorem wpQuiet_bare {P : Program} {ops : Array Oper} {C : World → Prop} {Q : Act → Prop} : ∀ (l : List Oper) (a : Act), wpQuiet P (ops.map bare) C Q (l.map bare) a → wpQuiet P ops C Q l a
  | [], a, h => h
  | o :: r, a, h => by
    rw [List.map_cons] at h
    unfold wpQuiet at h ⊢
    rw [yielded_bare] at h
    have e : Region.wanted (bare o) (yielded ops a.tmps) = Region.wanted o (yielded ops a.tmps) := rfl
    rw [e] at h
    by_cases hw : Region.wanted o (yielded ops a.tmps) = true
    · rw [if_pos hw] at h ⊢
      exact quiet_bare h (fun a' => wpQuiet_bare r a')
    · rw [if_neg hw] at h ⊢
      exact wpQuiet_bare r _ h
theorem wp_region_clb {P : Program} (R : World → Prop) {id : Nat} {Q : Exit → Act → World → Prop} {a : Act} {w : World} {l : List Oper} (hm : P.follows .mixedOrders = true) (hB : Region.lexB .any l.toArray = true) (hC : R { w with drawn := w.drawn + 1 })
    (h : ∀ (S : Type) (f : S → World), Nonempty S → (∀ x, R (f x)) → (∀ Y, R Y → ∃ x, Y = f x) → wpQuiet P (l.map bare).toArray (fun w' => ∃ x, w' = f x) (fun a' => ∀ w', (∃ x, w' = f x) → Q .normal a' w') (l.map bare) a) : (Code.region id l.toArray true).wp P Q a w := by
  have := h {w // R w} Subtype.val ⟨⟨_, hC⟩⟩ (fun x => x.2) (fun Y hY => ⟨⟨Y, hY⟩, rfl⟩)
  refine wp_region_quiet (C := fun w' => ∃ x : {w // R w}, w' = x.val) hm hB ⟨⟨_, hC⟩, rfl⟩ ?_
  have e : (l.map bare).toArray = (l.toArray).map bare := by simp
  rw [e] at this
  exact wpQuiet_bare _ _ (by simpa using this)
end Go.Pin
