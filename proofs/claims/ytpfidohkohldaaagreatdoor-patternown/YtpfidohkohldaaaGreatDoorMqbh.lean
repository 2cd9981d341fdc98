import Derived.Shelf.SlIter.Nil
import Derived.Shelf.SortM.Plain
import Derived.Shelf.SortM.SortNone
import Derived.Ground.GgzProg
import Derived.Ground.SlgmProg
import Derived.Test.YtpfidohkohldaaaGreatDoorProg
import Derived.Test.YtpfidohkohldaaaGreatDoorMqbg
import Derived.Test.YtpfidohkohldaaaGreatDoorMqbf
/- slices.Sorted(maps.Keys(m)), laid at this program -/
namespace Go.Proofs
set_option linter.unusedVariables false
open Go.RowKit Go.Maps Go.Sort Go.Shelf
def Tryz.keys34_ren : Go.Shelf.Ren := ⟨fun | 7 => 34 | 10 => 61 | n => n, fun | 23 => 65 | 26 => 9 | 3 => 63 | 28 => 77 | 0 => 0 | 27 => 76 | 33 => 68 | 4 => 4 | n => n, fun | n => n⟩
theorem Tryz.keys34 : Go.Proofs.SlLaysZ.n7 Tryz.prog Tryz.keys34_ren := {
  mixed := by kernel_rfl
  f7 := ⟨Tryz.f34.name, by decide, Tryz.func34.trans (congrArg some (by kernel_rfl))⟩
  f10 := ⟨Tryz.f61.name, by decide, Tryz.func61.trans (congrArg some (by kernel_rfl))⟩
  t0 := Tryz.underlying0
  a0 := Tryz.isAgg0
  z0 := Tryz.sizeOf0
  v0 := Tryz.zeroValue0
  t4 := Tryz.underlying4
  a4 := Tryz.isAgg4
  z4 := Tryz.sizeOf4
  v4 := Tryz.zeroValue4
  t23 := Tryz.underlying65
  a23 := Tryz.isAgg65
  z23 := Tryz.sizeOf65
  v23 := Tryz.zeroValue65
  t26 := Tryz.underlying9
  a26 := Tryz.isAgg9
  z26 := Tryz.sizeOf9
  v26 := Tryz.zeroValue9
  t27 := Tryz.underlying76
  a27 := Tryz.isAgg76
  z27 := Tryz.sizeOf76
  v27 := Tryz.zeroValue76
  t28 := Tryz.underlying77
  a28 := Tryz.isAgg77
  z28 := Tryz.sizeOf77
  v28 := Tryz.zeroValue77
  t33 := Tryz.underlying68
  a33 := Tryz.isAgg68
  z33 := Tryz.sizeOf68
  v33 := Tryz.zeroValue68 }
def Tryz.sorted33_ren : Go.Shelf.Ren := ⟨fun | 6 => 33 | 8 => 59 | 9 => 60 | 11 => 75 | 13 => 71 | 12 => 76 | 23 => 90 | 24 => 91 | 14 => 94 | 15 => 95 | 16 => 96 | 17 => 97 | 18 => 98 | 19 => 99 | 20 => 100 | 21 => 101 | 22 => 102 | 25 => 112 | 26 => 106 | 27 => 107 | 28 => 113 | 29 => 114 | 30 => 115 | 31 => 117 | n => n, fun | 26 => 9 | 28 => 77 | 24 => 27 | 0 => 0 | 3 => 3 | 37 => 128 | 48 => 144 | 50 => 146 | 4 => 4 | 40 => 137 | 39 => 136 | 45 => 71 | 5 => 5 | 9 => 9 | 51 => 154 | 55 => 158 | 57 => 162 | 58 => 163 | 33 => 68 | n => n, fun | n => n⟩
theorem Tryz.sorted33 : Go.Proofs.SlLaysZ.n6 Tryz.prog Tryz.sorted33_ren := {
  mixed := by kernel_rfl
  f6 := ⟨Tryz.f33.name, by decide, Tryz.func33.trans (congrArg some (by kernel_rfl))⟩
  f8 := ⟨Tryz.f59.name, by decide, Tryz.func59.trans (congrArg some (by kernel_rfl))⟩
  f11 := ⟨Tryz.f75.name, by decide, Tryz.func75.trans (congrArg some (by kernel_rfl))⟩
  t0 := Tryz.underlying0
  a0 := Tryz.isAgg0
  z0 := Tryz.sizeOf0
  v0 := Tryz.zeroValue0
  t24 := Tryz.underlying27
  a24 := Tryz.isAgg27
  z24 := Tryz.sizeOf27
  v24 := Tryz.zeroValue27
  t26 := Tryz.underlying9
  a26 := Tryz.isAgg9
  z26 := Tryz.sizeOf9
  v26 := Tryz.zeroValue9
  t28 := Tryz.underlying77
  a28 := Tryz.isAgg77
  z28 := Tryz.sizeOf77
  v28 := Tryz.zeroValue77
  i26 := by kernel_rfl }
def Tryz.sort60_ren : Go.Shelf.Ren := ⟨fun | 6 => 60 | 8 => 71 | 9 => 76 | 19 => 90 | 20 => 91 | 21 => 94 | 22 => 95 | 23 => 96 | 24 => 97 | 25 => 98 | 26 => 99 | 27 => 100 | 28 => 101 | 29 => 102 | 36 => 112 | 31 => 106 | 32 => 107 | 37 => 113 | 38 => 114 | 39 => 115 | 41 => 117 | n => n, fun | 27 => 27 | 29 => 9 | 3 => 3 | 32 => 128 | 26 => 27 | 0 => 0 | 44 => 144 | 46 => 146 | 4 => 4 | 36 => 137 | 35 => 136 | 41 => 71 | 5 => 5 | 9 => 9 | 53 => 154 | 57 => 158 | 63 => 162 | 64 => 163 | n => n, fun | n => n⟩
theorem Tryz.sort60 : Go.Proofs.SlLaysM.n6 Tryz.prog Tryz.sort60_ren := {
  mixed := by kernel_rfl
  f6 := ⟨Tryz.f60.name, by decide, Tryz.func60.trans (congrArg some (by kernel_rfl))⟩
  f8 := Tryz.func71.trans (congrArg some (by kernel_rfl))
  f9 := ⟨Tryz.f76.name, by decide, Tryz.func76.trans (congrArg some (by kernel_rfl))⟩
  f19 := Tryz.func90.trans (congrArg some (by kernel_rfl))
  f20 := Tryz.func91.trans (congrArg some (by kernel_rfl))
  f21 := ⟨Tryz.f94.name, by decide, Tryz.func94.trans (congrArg some (by kernel_rfl))⟩
  f22 := ⟨Tryz.f95.name, by decide, Tryz.func95.trans (congrArg some (by kernel_rfl))⟩
  f23 := ⟨Tryz.f96.name, by decide, Tryz.func96.trans (congrArg some (by kernel_rfl))⟩
  f24 := ⟨Tryz.f97.name, by decide, Tryz.func97.trans (congrArg some (by kernel_rfl))⟩
  f25 := ⟨Tryz.f98.name, by decide, Tryz.func98.trans (congrArg some (by kernel_rfl))⟩
  f26 := ⟨Tryz.f99.name, by decide, Tryz.func99.trans (congrArg some (by kernel_rfl))⟩
  f27 := ⟨Tryz.f100.name, by decide, Tryz.func100.trans (congrArg some (by kernel_rfl))⟩
  f28 := ⟨Tryz.f101.name, by decide, Tryz.func101.trans (congrArg some (by kernel_rfl))⟩
  f29 := ⟨Tryz.f102.name, by decide, Tryz.func102.trans (congrArg some (by kernel_rfl))⟩
  f31 := Tryz.func106.trans (congrArg some (by kernel_rfl))
  f32 := Tryz.func107.trans (congrArg some (by kernel_rfl))
  f36 := ⟨Tryz.f112.name, by decide, Tryz.func112.trans (congrArg some (by kernel_rfl))⟩
  f37 := ⟨Tryz.f113.name, by decide, Tryz.func113.trans (congrArg some (by kernel_rfl))⟩
  f38 := ⟨Tryz.f114.name, by decide, Tryz.func114.trans (congrArg some (by kernel_rfl))⟩
  f39 := ⟨Tryz.f115.name, by decide, Tryz.func115.trans (congrArg some (by kernel_rfl))⟩
  f41 := ⟨Tryz.f117.name, by decide, Tryz.func117.trans (congrArg some (by kernel_rfl))⟩
  t0 := Tryz.underlying0
  a0 := Tryz.isAgg0
  z0 := Tryz.sizeOf0
  v0 := Tryz.zeroValue0
  t3 := Tryz.underlying3
  a3 := Tryz.isAgg3
  z3 := Tryz.sizeOf3
  v3 := Tryz.zeroValue3
  t4 := Tryz.underlying4
  a4 := Tryz.isAgg4
  z4 := Tryz.sizeOf4
  v4 := Tryz.zeroValue4
  t5 := Tryz.underlying5
  a5 := Tryz.isAgg5
  z5 := Tryz.sizeOf5
  v5 := Tryz.zeroValue5
  t9 := Tryz.underlying9
  a9 := Tryz.isAgg9
  z9 := Tryz.sizeOf9
  v9 := Tryz.zeroValue9
  t26 := Tryz.underlying27
  a26 := Tryz.isAgg27
  z26 := Tryz.sizeOf27
  v26 := Tryz.zeroValue27
  t27 := Tryz.underlying27
  a27 := Tryz.isAgg27
  z27 := Tryz.sizeOf27
  v27 := Tryz.zeroValue27
  t29 := Tryz.underlying9
  a29 := Tryz.isAgg9
  z29 := Tryz.sizeOf9
  v29 := Tryz.zeroValue9
  t32 := Tryz.underlying128
  a32 := Tryz.isAgg128
  z32 := Tryz.sizeOf128
  v32 := Tryz.zeroValue128
  t35 := Tryz.underlying136
  a35 := Tryz.isAgg136
  z35 := Tryz.sizeOf136
  v35 := Tryz.zeroValue136
  t36 := Tryz.underlying137
  a36 := Tryz.isAgg137
  z36 := Tryz.sizeOf137
  v36 := Tryz.zeroValue137
  t41 := Tryz.underlying71
  a41 := Tryz.isAgg71
  z41 := Tryz.sizeOf71
  v41 := Tryz.zeroValue71
  t44 := Tryz.underlying144
  a44 := Tryz.isAgg144
  z44 := Tryz.sizeOf144
  v44 := Tryz.zeroValue144
  t46 := Tryz.underlying146
  a46 := Tryz.isAgg146
  z46 := Tryz.sizeOf146
  v46 := Tryz.zeroValue146
  t53 := Tryz.underlying154
  a53 := Tryz.isAgg154
  z53 := Tryz.sizeOf154
  v53 := Tryz.zeroValue154
  t57 := Tryz.underlying158
  a57 := Tryz.isAgg158
  z57 := Tryz.sizeOf158
  v57 := Tryz.zeroValue158
  t63 := Tryz.underlying162
  a63 := Tryz.isAgg162
  z63 := Tryz.sizeOf162
  v63 := Tryz.zeroValue162
  t64 := Tryz.underlying163
  a64 := Tryz.isAgg163
  z64 := Tryz.sizeOf163
  v64 := Tryz.zeroValue163 }
theorem Tryz.sorts33 (m : Nat) : AnyZ.SortsIn Tryz.prog Tryz.sorted33_ren Fence.wide m :=
  ⟨fun blk off cap ss W hH hblk hsz => callsIn_wide.2 (AnyM.slices_Sort_string Tryz.sort60 blk off cap ss W hH hblk hsz),
   fun p cap W => callsIn_wide.2 (AnyM.slices_Sort_string_none Tryz.sort60 p cap W)⟩

theorem Tryz.maps_Keys_34 (mb : Option Nat) (W : World) : CallsIn Fence.wide 5 Tryz.prog 34 #[.map mb] W fun e w' => e = .returned (.func (.func 61) #[] #[.pointer (some ⟨W.heap.size, 0, none⟩)]) ∧ w' = W.alloc (.cells #[.map mb] 65) :=
  AnyZ.keys_in Tryz.keys34 Fence.wide 5 trivial rfl mb W

set_option maxHeartbeats 1000000 in
theorem Tryz.slices_Sorted_keys_33_34 {H : Type} (b nn : Nat) (D0 : DataW H) (R : Value → Option (DataW H × List MemPlace)) (w : World) (hown : w.ownsMap Tryz.prog 9 R b nn D0) (hmax : Maps.size D0 ≤ maxLen) (hbytes : Maps.size D0 * 16 ≤ 140737488355328) :
    CallsIn Fence.wide 5 Tryz.prog 33 #[.func (.func 61) #[] #[.pointer (some ⟨w.heap.size, 0, none⟩)]] (w.alloc (.cells #[.map (some b)] 65)) fun e w' => ∃ (v : Value) (ss : List (List UInt8)), e = .returned v ∧ ss.Perm (strKeys D0) ∧
      w'.ownsRow (w.alloc (.cells #[.map (some b)] 65)).heap.size 9 1 v ss.length ((ss.mergeSort (fun x y => decide (x ≤ y))).map encStr) ∧ (v = .slice none 0 0 ↔ ss = []) ∧ Below (w.alloc (.cells #[.map (some b)] 65)).heap.size (w.alloc (.cells #[.map (some b)] 65)) w' := by
  have hbl := hown.lt
  have hseq : SeqGives Fence.wide 2 Tryz.prog 61 #[.pointer (some ⟨w.heap.size, 0, none⟩)] encStr (fun ss => ss.Perm (strKeys D0)) (Maps.size D0) (w.alloc (.cells #[.map (some b)] 65)) :=
    AnyZ.keys_gives (ρ := Tryz.keys34_ren) { Tryz.keys34 with } Fence.wide _ trivial rfl (by omega) w.heap.size b nn D0 _ (by simp) (by simp) (by
      obtain ⟨es, clock, hb, Ft, hs, hD⟩ := hown
      exact ⟨es, clock, (Below.heap_alloc _ _ b hbl).trans hb, Ft, hs, hD⟩)
  exact AnyZ.sorted_in Tryz.sorted33 Fence.wide 5 trivial trivial trivial trivial rfl (by omega) (Tryz.sorts33 _) (enters_of Tryz.func60 (by kernel_rfl) rfl) 61 #[.pointer (some ⟨w.heap.size, 0, none⟩)] trivial (enters_of Tryz.func61 (by kernel_rfl) rfl) _ _ hmax hbytes _ hseq
end Go.Proofs
namespace Go.Proofs.YtpfidohkohldaaaGreatDoor
set_option linter.unusedSimpArgs false
set_option linter.unusedVariables false
set_option maxRecDepth 100000
open Go.ChangeShapes Go.WideShapes Go.ChangeAt Go.RowKit Go.Pin Go.Pat Go.Deep
open Go.ChangeMaps (setBlock)
open Go.WideElems (Fit rd rg)
/-- how an element of the table reads: it is there -/
def entR (v : Value) : Option (DataW Unit × List MemPlace) := match v with
  | .agg _ => some (.lit (.bool true), [])
  | _ => none
theorem ents_mem : ∀ (L : List (ByteArray × ByteArray)) (c : Nat) (x : MapEntry), x ∈ ents L c → ∃ e, e ∈ L ∧ x.key = .string e.1
  | [], c, x, hx => by cases hx
  | e :: r, c, x, hx => by
    rcases List.mem_cons.1 hx with h | h
    · exact ⟨e, List.mem_cons_self, by rw [h]⟩
    · obtain ⟨e', he', h'⟩ := ents_mem r (c + 1) x h
      exact ⟨e', List.mem_cons_of_mem _ he', h'⟩
theorem ents_len : ∀ (L : List (ByteArray × ByteArray)) (c : Nat), (ents L c).length = L.length
  | [], c => rfl
  | e :: r, c => by simp [ents, ents_len r (c + 1)]
theorem fit_ents : ∀ n, n ≤ 38 → Fit Tryz.prog 9 entR (ents (tbl.take n) 0).toArray n
  | 0, _ => ⟨by simp [ents], MapKept.stamped_empty 0, by simp [ents]⟩
  | n + 1, hn => by
    have ih := fit_ents n (by omega)
    have hl : n < tbl.length := by rw [tbl_len]; omega
    have hln : (tbl.take n).length = n := by rw [List.length_take]; omega
    have e1 : tbl.take (n + 1) = tbl.take n ++ [tbl[n]] := by rw [List.take_append_getElem]
    have hsm := List.all_eq_true.1 tbl_small tbl[n] (List.getElem_mem hl)
    simp only [Bool.and_eq_true, decide_eq_true_eq] at hsm
    have hap : ∀ x ∈ (ents (tbl.take n) 0).toArray.toList, x.key ≠ .string tbl[n].1 := by
      intro x hx hk
      obtain ⟨e, he, h'⟩ := ents_mem _ _ x (by simpa using hx)
      rw [h'] at hk
      injection hk with hk
      have hp := of_decide_eq_true tbl_apart
      rw [← List.take_append_drop n tbl, List.pairwise_append] at hp
      refine hp.2.2 e he tbl[n] ?_ hk
      rw [List.drop_eq_getElem_cons hl]
      exact List.mem_cons_self
    have e2 : (ents (tbl.take (n + 1)) 0).toArray = (ents (tbl.take n) 0).toArray.push ⟨.string tbl[n].1, .agg #[.string tbl[n].2], n⟩ := by
      rw [e1, ents_snoc, hln]
      simp
    rw [e2]
    refine ⟨?_, MapKept.stamped_push ih.stamped hap, ?_⟩
    · have := ih.size
      simp [ents_len, hln, maxLen]
      omega
    · intro x hx
      simp only [Array.toList_push, List.mem_append, List.mem_singleton] at hx
      rcases hx with hx | rfl
      · exact ih.reads x hx
      · refine ⟨(.string tbl[n].1.data.toList, .lit (.bool true)), ?_⟩
        simp [rd, Go.WideMaps.keyOf_string_mk (P := Tryz.prog) Tryz.underlying9 (s := tbl[n].1) (by have := hsm.1; unfold maxLen; omega), entR]
/-- the names, as they stand in the table that is asked -/
def nms : List (List UInt8) := tab.map fun p => p.nm.data.toList
theorem nms_sorted : decide (nms.Pairwise fun x y => decide (x ≤ y) = true) = true := by kernel_rfl
theorem OM.owns {g : Nat} {w : World} (h : OM g tbl w) : ∃ D : DataW Unit, w.ownsMap Tryz.prog 9 entR g 38 D ∧ strKeys D = nms ∧ Go.Maps.size D = 38 := by
  refine ⟨.map (((ents tbl 0).map (rg Tryz.prog 9 entR)).foldr DataW.insert []), ⟨_, _, h, fit_ents 38 (Nat.le_refl _), Nat.le_refl _, rfl⟩, ?_, ?_⟩
  · kernel_rfl
  · kernel_rfl
theorem nms_of {ss : List (List UInt8)} {D : DataW Unit} (hD : strKeys D = nms) (h : ss.Perm (strKeys D)) : ss.mergeSort (fun x y => decide (x ≤ y)) = nms := by
  rw [mergeSort_of_perm h, hD]
  exact List.mergeSort_of_pairwise (of_decide_eq_true nms_sorted)
end Go.Proofs.YtpfidohkohldaaaGreatDoor
namespace Go.Proofs.YtpfidohkohldaaaGreatDoor
set_option linter.unusedSimpArgs false
set_option linter.unusedVariables false
set_option maxRecDepth 100000
open Go.ChangeShapes Go.WideShapes Go.ChangeAt Go.RowKit Go.Pin Go.Pat Go.Deep
/-- what All keeps: the table and the sorted names -/
structure KT (g r : Nat) (cur : Array Value) (w : World) : Prop where
  om : OM g tbl w
  hr : w.heap[r]? = some (.cells cur 9)
theorem KT.keep {g r n0 : Nat} {cur : Array Value} {w w' : World} (h : KT g r cur w) (hg : n0 ≤ g) (hr : n0 ≤ r) (hk : ∀ k, n0 ≤ k → k < w.heap.size → w'.heap[k]? = w.heap[k]?) : KT g r cur w' :=
  ⟨(hk g hg h.om.lt).trans h.om, (hk r hr (Array.getElem?_eq_some_iff.1 h.hr).1).trans h.hr⟩
theorem KT.below {g r : Nat} {cur : Array Value} {w w' : World} (h : KT g r cur w) (hb : Below w.heap.size w w') : KT g r cur w' :=
  ⟨h.om.below hb, (hb.block r (Array.getElem?_eq_some_iff.1 h.hr).1).trans h.hr⟩
theorem field_entry (t : ByteArray) (w : World) : (Instr.field 63 (.agg #[.string t]) 0).run Tryz.prog w = .ok (.string t) w := by kernel_rfl
/-- what is asked of a yield -/
def YC (n0 F : Nat) (cap : Array Value) (I : Nat → World → Prop) (S : World → Prop) : Prop :=
  ∀ (j : Nat) (W1 W : World) (v0 v1 vl : Value), j < 38 → I j W1 → Below W1.heap.size W1 W → FtP (fun b => W1.heap.size ≤ b ∧ b < W.heap.size) W v0 v1 vl (tab.getD j zPt) →
    Calls Tryz.prog F (#[.agg #[.string (tab.getD j zPt).nm, v0, v1, vl]] ++ cap) W fun e W' => ∃ b : Bool, e = .returned (.bool b) ∧ (∀ k, n0 ≤ k → k < W.heap.size → W'.heap[k]? = W.heap[k]?) ∧ W.heap.size ≤ W'.heap.size ∧ (if b = true then I (j + 1) W' else S W')
/-- what is asked of a yield whose pattern's lists are one's own -/
def YO (n0 F : Nat) (cap : Array Value) (I : Nat → World → Prop) (S : World → Prop) : Prop :=
  ∀ (j : Nat) (W1 W : World) (v0 v1 vl : Value), j < 38 → I j W1 → Below W1.heap.size W1 W → FtP (fun b => W1.heap.size ≤ b ∧ b < W.heap.size) W v0 v1 vl (tab.getD j zPt) → OwP W1.heap.size v0 v1 vl (tab.getD j zPt) W →
    Calls Tryz.prog F (#[.agg #[.string (tab.getD j zPt).nm, v0, v1, vl]] ++ cap) W fun e W' => ∃ b : Bool, e = .returned (.bool b) ∧ (∀ k, n0 ≤ k → k < W.heap.size → W'.heap[k]? = W.heap[k]?) ∧ W.heap.size ≤ W'.heap.size ∧ (if b = true then I (j + 1) W' else S W')
/-- the text of a name -/
def txO (k : ByteArray) : ByteArray := ((tbF k).map (fun e => e.2)).getD ⟨#[]⟩
theorem tab_names : (tab.map fun p => tbI p.nm) = tab.map some := by kernel_rfl
theorem nms_look {j : Nat} (hj : j < 38) : (tbF (tab.getD j zPt).nm).isSome = true ∧ prs (txO (tab.getD j zPt).nm) = (tab.getD j zPt, 0) ∧ (txO (tab.getD j zPt).nm).size ≤ 4096 := by
  have hl : j < tab.length := hj
  have h0 := tab_names
  rw [List.map_inj_left] at h0
  have hm : tab.getD j zPt ∈ tab := by rw [show tab.getD j zPt = tab[j] by simp [List.getD, hl]]; exact List.getElem_mem _
  have h2 := h0 _ hm
  unfold txO
  cases hf : tbF (tab.getD j zPt).nm with
  | none => rw [tbF_none hf] at h2; cases h2
  | some e =>
    obtain ⟨ek, em⟩ := tbF_some hf
    obtain ⟨a1, a2, a3⟩ := tbl_at em
    rw [ek, h2] at a1
    exact ⟨rfl, a1, a3⟩
theorem nms_at {j : Nat} (hj : j < 38) : (nms.map Go.Proofs.encStr)[j]? = some (.string (tab.getD j zPt).nm) := by
  have hl : j < tab.length := hj
  simp [nms, List.getElem?_map, hl, List.getD, Go.Proofs.encStr]
theorem sorted_names (n0 : Nat) (w1 : World) (h : OM n0 tbl w1) :
    Calls Tryz.prog 33 #[.func (.func 61) #[] #[.pointer (some ⟨w1.heap.size, 0, none⟩)]] (w1.alloc (.cells #[.map (some n0)] 65)) fun e w3 =>
      ∃ r cp cur, e = .returned (.slice (some ⟨r, 0, none⟩) 38 cp) ∧ 38 ≤ cp ∧ cp ≤ maxLen ∧ (w1.alloc (.cells #[.map (some n0)] 65)).heap.size ≤ r ∧ w3.heap[r]? = some (.cells cur 9) ∧ (∀ j, j < 38 → cur[j]? = some (.string (tab.getD j zPt).nm)) ∧
        Below (w1.alloc (.cells #[.map (some n0)] 65)).heap.size (w1.alloc (.cells #[.map (some n0)] 65)) w3 := by
  obtain ⟨D, hD1, hD2, hD3⟩ := h.owns
  refine (callsIn_wide.1 (Tryz.slices_Sorted_keys_33_34 n0 38 D entR w1 hD1 (by rw [hD3]; unfold maxLen; omega) (by rw [hD3]; omega))).mono ?_
  rintro e w3 ⟨v, ss, rfl, hS, hrow, hnil, hb⟩
  have hlen : ss.length = 38 := by rw [hS.length_eq, hD2]; rfl
  rw [nms_of hD2 hS, hlen] at hrow
  rcases hrow.2 with ⟨_, h⟩ | ⟨r, cp, cur, rfl, hr0, hrr, hc1, hc2, hcz, hct⟩
  · exact absurd h (by decide)
  · refine ⟨r, cp, cur, rfl, hc1, hc2, hr0, hrr, fun j hj => ?_, hb⟩
    rw [← nms_at hj, ← hct, List.getElem?_take]
    simp [hj]
set_option maxHeartbeats 8000000 in
theorem all1_own {ea : Int → Addr} (n0 F : Nat) (cap : Array Value) (I : Nat → World → Prop) (S : World → Prop) (w : World) (hn0 : w.heap.size = n0) (hF : ∀ args w, (callFunc F args).run Tryz.prog w = .ok (.enter F args) w) (hY : YO n0 F cap I S) (hE : ∀ j W, I j W → Errs ea W) (h0 : I 0 w) :
    Calls Tryz.prog 32 #[.func (.func F) #[] cap] w fun e w' => e = .returned (.tuple #[]) ∧ (S w' ∨ I 38 w') := by
  have CT := table_any w
  rw [hn0] at CT
  have HY : Hid _ := hY
  have HE : Hid _ := hE
  have H0 : Hid (I 0 w) := h0
  have HN : Hid (w.heap.size = n0) := hn0
  clear hY hE h0 hn0
  go_enter Tryz.func32, Tryz.ntmps32
  go_upto_region 1 with (first
    | (go_at_call 24; refine CT.mono ?_; rintro e w1 ⟨rfl, hom, hb⟩; have H1 : Hid (OM n0 tbl w1 ∧ Below n0 w w1) := ⟨hom, hb⟩; clear hom hb CT))
  have CK := callsIn_wide.1 (Tryz.maps_Keys_34 (some n0) w1)
  have CS := sorted_names n0 w1 H1.out.1
  have hal : Below n0 w (w1.alloc (.cells #[.map (some n0)] 65)) := H1.out.2.alloc (Nat.le_trans (by rw [← HN.out]; exact Nat.le_refl _) H1.out.2.size) _
  have hom2 : OM n0 tbl (w1.alloc (.cells #[.map (some n0)] 65)) := H1.out.1.below ((Below.refl _ _).alloc (Nat.le_refl _) _)
  have H2 : Hid (Below n0 w (w1.alloc (.cells #[.map (some n0)] 65)) ∧ OM n0 tbl (w1.alloc (.cells #[.map (some n0)] 65))) := ⟨hal, hom2⟩
  clear hal hom2
  go_wp2_with (first
    | (go_at_call 34; refine CK.mono ?_; rintro e w2 ⟨rfl, rfl⟩)
    | (go_at_call 33; refine CS.mono ?_; rintro e w3 ⟨r, cp, cur, rfl, hc1, hc2, hr0, hrr, hat, hb⟩; have H3 : Hid (Below n0 w w3 ∧ KT n0 r cur w3 ∧ n0 ≤ r ∧ (∀ j, j < 38 → cur[j]? = some (.string (tab.getD j zPt).nm))) := ⟨H2.out.1.trans (hb.mono (Nat.le_of_lt H2.out.2.lt)), ⟨H2.out.2.below hb, hrr⟩, Nat.le_trans (Nat.le_of_lt H2.out.2.lt) hr0, hat⟩; clear hat hb hr0 hrr))
  clear CK CS
  go_loopw [12] (fun v12 wr => ∃ (i : Nat) (W1 : World), i ≤ 38 ∧ v12 = .int .i64 i ∧ I i W1 ∧ Below W1.heap.size W1 wr ∧ (0 < i → W1 = wr) ∧ KT n0 r cur wr) (fun v _ => 38 - (intOf v).toNat)
  case atStart => exact ⟨0, w, Nat.zero_le _, rfl, H0.out, by rw [HN.out]; exact H3.out.1, fun h => absurd h (Nat.lt_irrefl _), H3.out.2.1⟩
  case round =>
    obtain ⟨i, W1, hi, rfl, hI, hB, hW, hK⟩ := hrel
    by_cases hlt : i < 38
    · have b1 : (i : Int) < 38 := by omega
      have bn : (0 : Int) ≤ (i : Int) := by omega
      obtain ⟨nm, hnm⟩ : ∃ nm, (tab.getD i zPt).nm = nm := ⟨_, rfl⟩
      have c0 : wr.cell? ⟨r, i, none⟩ = some (.string nm) := by
        rw [cell_of_row _ _ _ _ _ _ hK.hr, H3.out.2.2.2 i hlt, hnm]
      have hl : (Instr.lookup 65 (.map (some n0)) (.string nm) false).run Tryz.prog wr = .ok (.agg #[.string (txO nm)]) wr := run_look hK.om nm false
      obtain ⟨_, hp1, hp2⟩ := nms_look hlt
      rw [hnm] at hp1 hp2
      obtain ⟨tx, htx⟩ : ∃ tx, txO nm = tx := ⟨_, rfl⟩
      rw [htx] at hl hp1 hp2
      have HR : Hid (I i W1 ∧ Below W1.heap.size W1 wr ∧ KT n0 r cur wr) := ⟨hI, hB, hK⟩
      have CP := parse_own (ea := ea) tx wr ((HE.out i W1 hI).below hB) (by omega)
      unfold PsO at CP
      rw [hp1] at CP
      simp only [EV_0, hnm] at CP
      have HLT : Hid (i < 38) := hlt
      have hfl := field_entry tx
      have HNM : Hid ((tab.getD i zPt).nm = nm) := hnm
      clear hp1 hp2 htx hI hB hW hK hlt hnm
      go_upto_region 5 with (first
        | (go_at_call 12; refine CP.mono ?_; rintro e w4 ⟨hb, v0, v1, vl, rfl, hft, how⟩; obtain ⟨p0, q0, s0, rfl⟩ := hft.1.sl3; obtain ⟨p1, q1, s1, rfl⟩ := hft.2.1.sl3; obtain ⟨p2, q2, s2, rfl⟩ := hft.2.2.sl3; have H4 : Hid (Below wr.heap.size wr w4 ∧ FtP (fun b => wr.heap.size ≤ b ∧ b < w4.heap.size) w4 (.slice p0 q0 s0) (.slice p1 q1 s1) (.slice p2 q2 s2) (tab.getD i zPt)) := ⟨hb, hft⟩; have HO4 : Hid (OwP wr.heap.size (.slice p0 q0 s0) (.slice p1 q1 s1) (.slice p2 q2 s2) (tab.getD i zPt) w4) := how; clear hb hft how CP))
      have h5 : Below W1.heap.size W1 (w4.alloc (.cells #[.string nm, .slice p0 q0 s0, .slice p1 q1 s1, .slice p2 q2 s2] 26)) := (HR.out.2.1.trans (H4.out.1.mono HR.out.2.1.size)).alloc (Nat.le_trans HR.out.2.1.size H4.out.1.size) _
      have hf5 : FtP (fun b => W1.heap.size ≤ b ∧ b < w4.heap.size + 1) (w4.alloc (.cells #[.string nm, .slice p0 q0 s0, .slice p1 q1 s1, .slice p2 q2 s2] 26)) (.slice p0 q0 s0) (.slice p1 q1 s1) (.slice p2 q2 s2) (tab.getD i zPt) := (H4.out.2.keep (fun b hb => Below.heap_alloc _ _ _ hb.2)).mono (fun b hb => ⟨Nat.le_trans HR.out.2.1.size hb.1, Nat.lt_succ_of_lt hb.2⟩)
      rw [← size_alloc w4 (.cells #[.string nm, .slice p0 q0 s0, .slice p1 q1 s1, .slice p2 q2 s2] 26)] at hf5
      have ho5 : OwP W1.heap.size (.slice p0 q0 s0) (.slice p1 q1 s1) (.slice p2 q2 s2) (tab.getD i zPt) (w4.alloc (.cells #[.string nm, .slice p0 q0 s0, .slice p1 q1 s1, .slice p2 q2 s2] 26)) := (HO4.out.keep (fun b _ hb => Below.heap_alloc _ _ _ hb)).dn HR.out.2.1.size
      have hr5 := heap_alloc_new w4 (.cells #[.string nm, .slice p0 q0 s0, .slice p1 q1 s1, .slice p2 q2 s2] 26)
      have hk5 : KT n0 r cur (w4.alloc (.cells #[.string nm, .slice p0 q0 s0, .slice p1 q1 s1, .slice p2 q2 s2] 26)) := HR.out.2.2.below (H4.out.1.alloc H4.out.1.size _)
      obtain ⟨g5, hg5⟩ : ∃ g5, w4.heap.size = g5 := ⟨_, rfl⟩
      obtain ⟨w5, hw5⟩ : ∃ w5, w4.alloc (.cells #[.string nm, .slice p0 q0 s0, .slice p1 q1 s1, .slice p2 q2 s2] 26) = w5 := ⟨_, rfl⟩
      rw [hw5] at h5 hf5 ho5 hr5 hk5 ⊢
      simp only [hg5] at hr5 ⊢
      have k0 := cell_of_row w5 g5 0 _ _ _ hr5
      have k1 := cell_of_row w5 g5 1 _ _ _ hr5
      have k2 := cell_of_row w5 g5 2 _ _ _ hr5
      have k3 := cell_of_row w5 g5 3 _ _ _ hr5
      simp at k0 k1 k2 k3
      have CY := HY.out i W1 w5 _ _ _ HLT.out HR.out.1 h5 hf5 ho5
      rw [HNM.out] at CY
      have HK5 : Hid (KT n0 r cur w5) := hk5
      clear hw5 hg5 h5 hf5 ho5 HO4 hr5 c0 hl hfl hk5
      go_upto_region 5 with (fail)
      go_wp2_with (refine CY.mono ?_; rintro e w6 ⟨b, rfl, hkp, hsz, hI⟩; have H6 : Hid (KT n0 r cur w6 ∧ (if b = true then I (i + 1) w6 else S w6)) := ⟨HK5.out.keep (Nat.le_refl _) H3.out.2.2.1 hkp, hI⟩; clear hkp hsz hI CY k0 k1 k2 k3)
      · rename_i hbb
        obtain rfl : b = false := by simpa using hbb
        refine bodyPost_ret (v := .tuple #[]) (by simp [results, Tryz.results32]) rfl ⟨rfl, .inl H6.out.2⟩
      · rename_i hbb
        obtain rfl : b = true := by simpa using hbb
        exact ⟨⟨i + 1, w6, HLT.out, congrArg (Value.int .i64) (Int.natCast_succ i).symm, H6.out.2, Below.refl _ _, fun _ => rfl, H6.out.1⟩, by have := HLT.out; show 38 - ((i : Int) + 1).toNat < 38 - ((i : Int)).toNat; omega⟩
    · have b1 : ¬ (i : Int) < 38 := by omega
      obtain rfl : i = 38 := by omega
      obtain rfl := hW (by decide)
      have HI : Hid (I 38 W1) := hI
      clear hB hK hI
      go_wp2
      go_end0
      exact ⟨rfl, .inr HI.out⟩
theorem all1_any {ea : Int → Addr} (n0 F : Nat) (cap : Array Value) (I : Nat → World → Prop) (S : World → Prop) (w : World) (hn0 : w.heap.size = n0) (hF : ∀ args w, (callFunc F args).run Tryz.prog w = .ok (.enter F args) w) (hY : YC n0 F cap I S) (hE : ∀ j W, I j W → Errs ea W) (h0 : I 0 w) :
    Calls Tryz.prog 32 #[.func (.func F) #[] cap] w fun e w' => e = .returned (.tuple #[]) ∧ (S w' ∨ I 38 w') :=
  all1_own n0 F cap I S w hn0 hF (fun j W1 W v0 v1 vl h1 h2 h3 h4 _ => hY j W1 W v0 v1 vl h1 h2 h3 h4) hE h0
end Go.Proofs.YtpfidohkohldaaaGreatDoor
namespace Go.Proofs.YtpfidohkohldaaaGreatDoor
set_option linter.unusedSimpArgs false
set_option linter.unusedVariables false
set_option maxRecDepth 100000
open Go.ChangeShapes Go.WideShapes Go.ChangeAt Go.RowKit Go.Pin Go.Pat Go.Deep
theorem KT.keepX {g r n0 : Nat} {cur : Array Value} {w w' : World} (h : KT g r cur w) (hg : n0 ≤ g) (hr : n0 ≤ r) (hk : ∀ k, n0 ≤ k → k < w.heap.size → (∀ cs, w.heap[k]? ≠ some (.cells cs 26 (0, 0))) → w'.heap[k]? = w.heap[k]?) : KT g r cur w' :=
  ⟨(hk g hg h.om.lt (fun cs e => by rw [show w.heap[g]? = _ from h.om] at e; cases e)).trans h.om, (hk r hr (Array.getElem?_eq_some_iff.1 h.hr).1 (fun cs e => by rw [h.hr] at e; injection e with e; injection e with _ e; exact absurd e (by decide))).trans h.hr⟩
/-- what is asked of a yield that keeps patterns in a row of its own -/
def YX (n0 F : Nat) (cap : Array Value) (I : Nat → World → Prop) (S : World → Prop) : Prop :=
  ∀ (j : Nat) (W1 W : World) (v0 v1 vl : Value), j < 38 → I j W1 → Below W1.heap.size W1 W → FtP (fun b => W1.heap.size ≤ b ∧ b < W.heap.size) W v0 v1 vl (tab.getD j zPt) → OwP W1.heap.size v0 v1 vl (tab.getD j zPt) W →
    Calls Tryz.prog F (#[.agg #[.string (tab.getD j zPt).nm, v0, v1, vl]] ++ cap) W fun e W' => ∃ b : Bool, e = .returned (.bool b) ∧ (∀ k, n0 ≤ k → k < W.heap.size → (∀ cs, W.heap[k]? ≠ some (.cells cs 26 (0, 0))) → W'.heap[k]? = W.heap[k]?) ∧ W.heap.size ≤ W'.heap.size ∧ (if b = true then I (j + 1) W' else S W')
set_option maxHeartbeats 8000000 in
theorem all1_ox {ea : Int → Addr} (n0 F : Nat) (cap : Array Value) (I : Nat → World → Prop) (S : World → Prop) (w : World) (hn0 : w.heap.size = n0) (hF : ∀ args w, (callFunc F args).run Tryz.prog w = .ok (.enter F args) w) (hY : YX n0 F cap I S) (hE : ∀ j W, I j W → Errs ea W) (h0 : I 0 w) :
    Calls Tryz.prog 32 #[.func (.func F) #[] cap] w fun e w' => e = .returned (.tuple #[]) ∧ (S w' ∨ I 38 w') := by
  have CT := table_any w
  rw [hn0] at CT
  have HY : Hid _ := hY
  have HE : Hid _ := hE
  have H0 : Hid (I 0 w) := h0
  have HN : Hid (w.heap.size = n0) := hn0
  clear hY hE h0 hn0
  go_enter Tryz.func32, Tryz.ntmps32
  go_upto_region 1 with (first
    | (go_at_call 24; refine CT.mono ?_; rintro e w1 ⟨rfl, hom, hb⟩; have H1 : Hid (OM n0 tbl w1 ∧ Below n0 w w1) := ⟨hom, hb⟩; clear hom hb CT))
  have CK := callsIn_wide.1 (Tryz.maps_Keys_34 (some n0) w1)
  have CS := sorted_names n0 w1 H1.out.1
  have hal : Below n0 w (w1.alloc (.cells #[.map (some n0)] 65)) := H1.out.2.alloc (Nat.le_trans (by rw [← HN.out]; exact Nat.le_refl _) H1.out.2.size) _
  have hom2 : OM n0 tbl (w1.alloc (.cells #[.map (some n0)] 65)) := H1.out.1.below ((Below.refl _ _).alloc (Nat.le_refl _) _)
  have H2 : Hid (Below n0 w (w1.alloc (.cells #[.map (some n0)] 65)) ∧ OM n0 tbl (w1.alloc (.cells #[.map (some n0)] 65))) := ⟨hal, hom2⟩
  clear hal hom2
  go_wp2_with (first
    | (go_at_call 34; refine CK.mono ?_; rintro e w2 ⟨rfl, rfl⟩)
    | (go_at_call 33; refine CS.mono ?_; rintro e w3 ⟨r, cp, cur, rfl, hc1, hc2, hr0, hrr, hat, hb⟩; have H3 : Hid (Below n0 w w3 ∧ KT n0 r cur w3 ∧ n0 ≤ r ∧ (∀ j, j < 38 → cur[j]? = some (.string (tab.getD j zPt).nm))) := ⟨H2.out.1.trans (hb.mono (Nat.le_of_lt H2.out.2.lt)), ⟨H2.out.2.below hb, hrr⟩, Nat.le_trans (Nat.le_of_lt H2.out.2.lt) hr0, hat⟩; clear hat hb hr0 hrr))
  clear CK CS
  go_loopw [12] (fun v12 wr => ∃ (i : Nat) (W1 : World), i ≤ 38 ∧ v12 = .int .i64 i ∧ I i W1 ∧ Below W1.heap.size W1 wr ∧ (0 < i → W1 = wr) ∧ KT n0 r cur wr) (fun v _ => 38 - (intOf v).toNat)
  case atStart => exact ⟨0, w, Nat.zero_le _, rfl, H0.out, by rw [HN.out]; exact H3.out.1, fun h => absurd h (Nat.lt_irrefl _), H3.out.2.1⟩
  case round =>
    obtain ⟨i, W1, hi, rfl, hI, hB, hW, hK⟩ := hrel
    by_cases hlt : i < 38
    · have b1 : (i : Int) < 38 := by omega
      have bn : (0 : Int) ≤ (i : Int) := by omega
      obtain ⟨nm, hnm⟩ : ∃ nm, (tab.getD i zPt).nm = nm := ⟨_, rfl⟩
      have c0 : wr.cell? ⟨r, i, none⟩ = some (.string nm) := by
        rw [cell_of_row _ _ _ _ _ _ hK.hr, H3.out.2.2.2 i hlt, hnm]
      have hl : (Instr.lookup 65 (.map (some n0)) (.string nm) false).run Tryz.prog wr = .ok (.agg #[.string (txO nm)]) wr := run_look hK.om nm false
      obtain ⟨_, hp1, hp2⟩ := nms_look hlt
      rw [hnm] at hp1 hp2
      obtain ⟨tx, htx⟩ : ∃ tx, txO nm = tx := ⟨_, rfl⟩
      rw [htx] at hl hp1 hp2
      have HR : Hid (I i W1 ∧ Below W1.heap.size W1 wr ∧ KT n0 r cur wr) := ⟨hI, hB, hK⟩
      have CP := parse_own (ea := ea) tx wr ((HE.out i W1 hI).below hB) (by omega)
      unfold PsO at CP
      rw [hp1] at CP
      simp only [EV_0, hnm] at CP
      have HLT : Hid (i < 38) := hlt
      have hfl := field_entry tx
      have HNM : Hid ((tab.getD i zPt).nm = nm) := hnm
      clear hp1 hp2 htx hI hB hW hK hlt hnm
      go_upto_region 5 with (first
        | (go_at_call 12; refine CP.mono ?_; rintro e w4 ⟨hb, v0, v1, vl, rfl, hft, how⟩; obtain ⟨p0, q0, s0, rfl⟩ := hft.1.sl3; obtain ⟨p1, q1, s1, rfl⟩ := hft.2.1.sl3; obtain ⟨p2, q2, s2, rfl⟩ := hft.2.2.sl3; have H4 : Hid (Below wr.heap.size wr w4 ∧ FtP (fun b => wr.heap.size ≤ b ∧ b < w4.heap.size) w4 (.slice p0 q0 s0) (.slice p1 q1 s1) (.slice p2 q2 s2) (tab.getD i zPt)) := ⟨hb, hft⟩; have HO4 : Hid (OwP wr.heap.size (.slice p0 q0 s0) (.slice p1 q1 s1) (.slice p2 q2 s2) (tab.getD i zPt) w4) := how; clear hb hft how CP))
      have h5 : Below W1.heap.size W1 (w4.alloc (.cells #[.string nm, .slice p0 q0 s0, .slice p1 q1 s1, .slice p2 q2 s2] 26)) := (HR.out.2.1.trans (H4.out.1.mono HR.out.2.1.size)).alloc (Nat.le_trans HR.out.2.1.size H4.out.1.size) _
      have hf5 : FtP (fun b => W1.heap.size ≤ b ∧ b < w4.heap.size + 1) (w4.alloc (.cells #[.string nm, .slice p0 q0 s0, .slice p1 q1 s1, .slice p2 q2 s2] 26)) (.slice p0 q0 s0) (.slice p1 q1 s1) (.slice p2 q2 s2) (tab.getD i zPt) := (H4.out.2.keep (fun b hb => Below.heap_alloc _ _ _ hb.2)).mono (fun b hb => ⟨Nat.le_trans HR.out.2.1.size hb.1, Nat.lt_succ_of_lt hb.2⟩)
      rw [← size_alloc w4 (.cells #[.string nm, .slice p0 q0 s0, .slice p1 q1 s1, .slice p2 q2 s2] 26)] at hf5
      have ho5 : OwP W1.heap.size (.slice p0 q0 s0) (.slice p1 q1 s1) (.slice p2 q2 s2) (tab.getD i zPt) (w4.alloc (.cells #[.string nm, .slice p0 q0 s0, .slice p1 q1 s1, .slice p2 q2 s2] 26)) := (HO4.out.keep (fun b _ hb => Below.heap_alloc _ _ _ hb)).dn HR.out.2.1.size
      have hr5 := heap_alloc_new w4 (.cells #[.string nm, .slice p0 q0 s0, .slice p1 q1 s1, .slice p2 q2 s2] 26)
      have hk5 : KT n0 r cur (w4.alloc (.cells #[.string nm, .slice p0 q0 s0, .slice p1 q1 s1, .slice p2 q2 s2] 26)) := HR.out.2.2.below (H4.out.1.alloc H4.out.1.size _)
      obtain ⟨g5, hg5⟩ : ∃ g5, w4.heap.size = g5 := ⟨_, rfl⟩
      obtain ⟨w5, hw5⟩ : ∃ w5, w4.alloc (.cells #[.string nm, .slice p0 q0 s0, .slice p1 q1 s1, .slice p2 q2 s2] 26) = w5 := ⟨_, rfl⟩
      rw [hw5] at h5 hf5 ho5 hr5 hk5 ⊢
      simp only [hg5] at hr5 ⊢
      have k0 := cell_of_row w5 g5 0 _ _ _ hr5
      have k1 := cell_of_row w5 g5 1 _ _ _ hr5
      have k2 := cell_of_row w5 g5 2 _ _ _ hr5
      have k3 := cell_of_row w5 g5 3 _ _ _ hr5
      simp at k0 k1 k2 k3
      have CY := HY.out i W1 w5 _ _ _ HLT.out HR.out.1 h5 hf5 ho5
      rw [HNM.out] at CY
      have HK5 : Hid (KT n0 r cur w5) := hk5
      clear hw5 hg5 h5 hf5 ho5 HO4 hr5 c0 hl hfl hk5
      go_upto_region 5 with (fail)
      go_wp2_with (refine CY.mono ?_; rintro e w6 ⟨b, rfl, hkp, hsz, hI⟩; have H6 : Hid (KT n0 r cur w6 ∧ (if b = true then I (i + 1) w6 else S w6)) := ⟨HK5.out.keepX (Nat.le_refl _) H3.out.2.2.1 hkp, hI⟩; clear hkp hsz hI CY k0 k1 k2 k3)
      · rename_i hbb
        obtain rfl : b = false := by simpa using hbb
        refine bodyPost_ret (v := .tuple #[]) (by simp [results, Tryz.results32]) rfl ⟨rfl, .inl H6.out.2⟩
      · rename_i hbb
        obtain rfl : b = true := by simpa using hbb
        exact ⟨⟨i + 1, w6, HLT.out, congrArg (Value.int .i64) (Int.natCast_succ i).symm, H6.out.2, Below.refl _ _, fun _ => rfl, H6.out.1⟩, by have := HLT.out; show 38 - ((i : Int) + 1).toNat < 38 - ((i : Int)).toNat; omega⟩
    · have b1 : ¬ (i : Int) < 38 := by omega
      obtain rfl : i = 38 := by omega
      obtain rfl := hW (by decide)
      have HI : Hid (I 38 W1) := hI
      clear hB hK hI
      go_wp2
      go_end0
      exact ⟨rfl, .inr HI.out⟩
end Go.Proofs.YtpfidohkohldaaaGreatDoor
