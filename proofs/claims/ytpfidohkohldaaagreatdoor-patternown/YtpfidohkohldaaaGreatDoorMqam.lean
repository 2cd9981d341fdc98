import Derived.Shelf.Strings.Builder1
import Derived.Shelf.Strings.Builder2
import Derived.Shelf.Strings.OnBuilder
import Derived.Shelf.Small.Bits
import Derived.Shelf.Small.Wraps
import Derived.Shelf.Strconv.Itoa0
import Derived.Shelf.LaysM
import Derived.Shelf.Strconv.Clone
import Derived.Shelf.Sort.Plain
import Derived.Shelf.Strings.Prefix
import Derived.Shelf.Slices.Reverse
import Derived.Ground.Names2Prog
import Derived.Shelf.Slices.Clone
import Derived.Shelf.Slices.SearchI
import Derived.Shelf.Slices.Cells
import Derived.Shelf.Slices.In.SortNone
import Derived.Ground.SlgnProg
import Derived.Shelf.SlicesE.Clone
import Derived.Test.YtpfidohkohldaaaGreatDoorProg
import Derived.Test.YtpfidohkohldaaaGreatDoorMqal
/- contracts of Go's library, laid at this program -/
namespace Go.Proofs
set_option linter.unusedVariables false
open Go.Shelf Go.RowKit Go.Lib Go.Sort
def Tryz.lays156_ren : Go.Shelf.Ren := ⟨fun | 156 => 31 | 165 => 58 | 166 => 46 | 169 => 48 | 240 => 67 | 241 => 74 | 276 => 79 | 277 => 93 | n => n, fun | 31 => 27 | 9 => 9 | 3 => 3 | 4 => 4 | 0 => 0 | 20 => 20 | 72 => 94 | 76 => 95 | 70 => 91 | 37 => 92 | 75 => 45 | 127 => 123 | 164 => 133 | 5 => 5 | 80 => 86 | n => n, fun | n => n⟩
theorem Tryz.lays156 : Go.Proofs.Lays.n156 Tryz.prog Tryz.lays156_ren := {
  mixed := by kernel_rfl
  f156 := Tryz.func31.trans (congrArg some (by kernel_rfl))
  f165 := Tryz.func58.trans (congrArg some (by kernel_rfl))
  f166 := Tryz.func46.trans (congrArg some (by kernel_rfl))
  f169 := Tryz.func48.trans (congrArg some (by kernel_rfl))
  f240 := Tryz.func67.trans (congrArg some (by kernel_rfl))
  f241 := Tryz.func74.trans (congrArg some (by kernel_rfl))
  f276 := Tryz.func79.trans (congrArg some (by kernel_rfl))
  f277 := Tryz.func93.trans (congrArg some (by kernel_rfl))
  t0 := Tryz.underlying0
  a0 := Tryz.isAgg0
  z0 := Tryz.sizeOf0
  v0 := Tryz.zeroValue0
  t3 := Tryz.underlying3
  a3 := Tryz.isAgg3
  z3 := Tryz.sizeOf3
  v3 := Tryz.zeroValue3
  t4 := Tryz.underlying4
  a4 := Tryz.isAgg4
  z4 := Tryz.sizeOf4
  v4 := Tryz.zeroValue4
  t9 := Tryz.underlying9
  a9 := Tryz.isAgg9
  z9 := Tryz.sizeOf9
  v9 := Tryz.zeroValue9
  t20 := Tryz.underlying20
  a20 := Tryz.isAgg20
  z20 := Tryz.sizeOf20
  v20 := Tryz.zeroValue20
  t31 := Tryz.underlying27
  a31 := Tryz.isAgg27
  z31 := Tryz.sizeOf27
  v31 := Tryz.zeroValue27
  t37 := Tryz.underlying92
  a37 := Tryz.isAgg92
  z37 := Tryz.sizeOf92
  v37 := Tryz.zeroValue92
  t70 := Tryz.underlying91
  a70 := Tryz.isAgg91
  z70 := Tryz.sizeOf91
  v70 := Tryz.zeroValue91
  t72 := Tryz.underlying94
  a72 := Tryz.isAgg94
  z72 := Tryz.sizeOf94
  v72 := Tryz.zeroValue94
  t75 := Tryz.underlying45
  a75 := Tryz.isAgg45
  z75 := Tryz.sizeOf45
  v75 := Tryz.zeroValue45
  t76 := Tryz.underlying95
  a76 := Tryz.isAgg95
  z76 := Tryz.sizeOf95
  v76 := Tryz.zeroValue95
  t127 := Tryz.underlying123
  a127 := Tryz.isAgg123
  z127 := Tryz.sizeOf123
  v127 := Tryz.zeroValue123
  t164 := Tryz.underlying133
  a164 := Tryz.isAgg133
  z164 := Tryz.sizeOf133
  v164 := Tryz.zeroValue133 }
theorem Tryz.Builder_Extra_156 : Builder.Extra Tryz.prog Tryz.lays156_ren := {
  sizeBuilder := by kernel_rfl
  liesBuilder := by kernel_rfl
  t5 := Tryz.underlying5
  a5 := Tryz.isAgg5
  z5 := Tryz.sizeOf5
  v5 := Tryz.zeroValue5
  infoByte := by kernel_rfl
  cellsByte := by kernel_rfl
  sizeByte := by kernel_rfl
  neB5 := by decide }
theorem Tryz.strings_Join_none (a : Option Addr) (c : Nat) (sep : ByteArray) (w : World) :
    Calls Tryz.prog 31 #[.slice a 0 c, .string sep] w fun e w' => e = .returned (.string ⟨#[]⟩) ∧ w' = w := Any.strings_Join_none Tryz.lays156 Tryz.Builder_Extra_156 a c sep w
theorem Tryz.strings_Join (bk o c : Nat) (xs : List ByteArray) (sep : ByteArray) (w : World) (hcells : ∀ (j : Nat) x, xs[j]? = some x → w.cell? ⟨bk, o + j, none⟩ = some (.string x)) (hbk : bk < w.heap.size) (hN : xs.length ≤ 140737488355328) (hcap : xs.length ≤ c) (hlen : (Lib.join (xs.map (·.data.toList)) sep.data.toList).length ≤ 140737488355328) :
    Calls Tryz.prog 31 #[.slice (some ⟨bk, o, none⟩) xs.length c, .string sep] w fun e w' => e = .returned (.string ⟨(Lib.join (xs.map (·.data.toList)) sep.data.toList).toArray⟩) ∧ Below w.heap.size w w' := Any.strings_Join Tryz.lays156 Tryz.Builder_Extra_156 bk o c xs sep w hcells hbk hN hcap hlen
def Tryz.lays103_ren : Go.Shelf.Ren := ⟨fun | 103 => 66 | 210 => 78 | 206 => 104 | n => n, fun | 9 => 9 | 4 => 4 | 24 => 120 | 3 => 3 | n => n, fun | n => n⟩
theorem Tryz.lays103 : Go.Proofs.Lays.n103 Tryz.prog Tryz.lays103_ren := {
  mixed := by kernel_rfl
  f103 := Tryz.func66.trans (congrArg some (by kernel_rfl))
  f206 := Tryz.func104.trans (congrArg some (by kernel_rfl))
  f210 := Tryz.func78.trans (congrArg some (by kernel_rfl))
  t3 := Tryz.underlying3
  a3 := Tryz.isAgg3
  z3 := Tryz.sizeOf3
  v3 := Tryz.zeroValue3
  t4 := Tryz.underlying4
  a4 := Tryz.isAgg4
  z4 := Tryz.sizeOf4
  v4 := Tryz.zeroValue4
  t9 := Tryz.underlying9
  a9 := Tryz.isAgg9
  z9 := Tryz.sizeOf9
  v9 := Tryz.zeroValue9
  t24 := Tryz.underlying120
  a24 := Tryz.isAgg120
  z24 := Tryz.sizeOf120
  v24 := Tryz.zeroValue120 }
theorem Tryz.strings_CutPrefix (s p : ByteArray) (w : World) :
    Calls Tryz.prog 66 #[.string s, .string p] w fun e w' => e = .returned (.tuple #[.string ⟨(Lib.trimPrefix s.data.toList p.data.toList).toArray⟩, .bool (Lib.hasPrefix s.data.toList p.data.toList)]) ∧ w' = w := Any.strings_CutPrefix Tryz.lays103 s p w
def Tryz.laysM316_ren : Go.Shelf.Ren := ⟨fun | 316 => 57 | n => n, fun | 9 => 9 | 3 => 3 | 4 => 4 | 37 => 92 | 0 => 0 | 127 => 123 | 5 => 5 | n => n, fun | n => n⟩
theorem Tryz.laysM316 : Go.Proofs.LaysM.n316 Tryz.prog Tryz.laysM316_ren := {
  mixed := by kernel_rfl
  f316 := Tryz.func57.trans (congrArg some (by kernel_rfl))
  t0 := Tryz.underlying0
  a0 := Tryz.isAgg0
  z0 := Tryz.sizeOf0
  v0 := Tryz.zeroValue0
  t3 := Tryz.underlying3
  a3 := Tryz.isAgg3
  z3 := Tryz.sizeOf3
  v3 := Tryz.zeroValue3
  t4 := Tryz.underlying4
  a4 := Tryz.isAgg4
  z4 := Tryz.sizeOf4
  v4 := Tryz.zeroValue4
  t9 := Tryz.underlying9
  a9 := Tryz.isAgg9
  z9 := Tryz.sizeOf9
  v9 := Tryz.zeroValue9
  t37 := Tryz.underlying92
  a37 := Tryz.isAgg92
  z37 := Tryz.sizeOf92
  v37 := Tryz.zeroValue92
  t127 := Tryz.underlying123
  a127 := Tryz.isAgg123
  z127 := Tryz.sizeOf123
  v127 := Tryz.zeroValue123
  t5 := Tryz.underlying5
  a5 := Tryz.isAgg5
  z5 := Tryz.sizeOf5
  v5 := Tryz.zeroValue5
  i0 := by kernel_rfl
  i3 := by kernel_rfl
  i4 := by kernel_rfl
  i5 := by kernel_rfl
  i9 := by kernel_rfl
  i37 := by kernel_rfl
  i127 := by kernel_rfl }
theorem Tryz.stringslite_Clone (s : ByteArray) (w : World) (hlim : s.size ≤ 281474976710656) :
    Calls Tryz.prog 57 #[.string s] w fun e w' => e = .returned (.string s) ∧ Below w.heap.size w w' := Any.stringslite_Clone Tryz.laysM316 s w hlim
def Tryz.laysNm215_ren : Go.Shelf.Ren := ⟨fun | 15 => 50 | n => n, fun | 22 => 22 | 3 => 3 | 4 => 4 | n => n, fun | n => n⟩
theorem Tryz.laysNm215 : Go.Proofs.Lays2.n15 Tryz.prog Tryz.laysNm215_ren := {
  mixed := by kernel_rfl
  f15 := Tryz.func50.trans (congrArg some (by kernel_rfl))
  t3 := Tryz.underlying3
  a3 := Tryz.isAgg3
  z3 := Tryz.sizeOf3
  v3 := Tryz.zeroValue3
  t4 := Tryz.underlying4
  a4 := Tryz.isAgg4
  z4 := Tryz.sizeOf4
  v4 := Tryz.zeroValue4
  t22 := Tryz.underlying22
  a22 := Tryz.isAgg22
  z22 := Tryz.sizeOf22
  v22 := Tryz.zeroValue22
  i3 := by kernel_rfl }
theorem Tryz.slices_Clone_int (b off n c : Nat) (zs : List Int) (w : World) (hz : n ≤ zs.length) (hbig : n * 8 ≤ 140737488355328) (hc : ∀ j, j < zs.length → w.cell? ⟨b, off + j, none⟩ = some (.int .i64 (zs.getD j 0))) :
    Calls Tryz.prog 50 #[.slice (some ⟨b, off, none⟩) n c] w fun e w' => ∃ v', e = .returned v' ∧ w'.ownsRow w.heap.size 3 1 v' n ((zs.take n).map (Value.int .i64)) ∧ v' ≠ .slice none 0 0 ∧ Below w.heap.size w w' := Any.slices_Clone_int Tryz.laysNm215 b off n c zs w hz hbig hc
theorem Tryz.slices_Clone_int_nil (n c : Nat) (w : World) :
    Calls Tryz.prog 50 #[.slice none n c] w fun e w' => e = .returned (.slice none 0 0) ∧ w' = w := Any.slices_Clone_int_nil Tryz.laysNm215 n c w
theorem Tryz.slices_Clone_int_zero (a : Addr) (c : Nat) (w : World) :
    Calls Tryz.prog 50 #[.slice (some a) 0 c] w fun e w' => ∃ v', e = .returned v' ∧ w'.ownsRow w.heap.size 3 1 v' 0 [] ∧ v' ≠ .slice none 0 0 ∧ Below w.heap.size w w' := Any.slices_Clone_int_zero Tryz.laysNm215 a c w
def Tryz.lays189_ren : Go.Shelf.Ren := ⟨fun | 189 => 54 | 125 => 71 | 257 => 70 | 128 => 90 | 129 => 91 | 294 => 81 | 295 => 82 | 296 => 83 | 297 => 84 | 298 => 85 | 299 => 86 | 216 => 87 | 300 => 88 | 301 => 89 | 328 => 105 | 329 => 106 | 330 => 107 | 331 => 108 | 332 => 109 | 215 => 110 | 343 => 116 | n => n, fun | 28 => 22 | 3 => 3 | 46 => 128 | 0 => 0 | 51 => 144 | 53 => 146 | 4 => 4 | 183 => 137 | 182 => 136 | 131 => 71 | 5 => 5 | 9 => 9 | 218 => 154 | 222 => 158 | 228 => 162 | 229 => 163 | n => n, fun | n => n⟩
theorem Tryz.lays189 : Go.Proofs.Lays.n189 Tryz.prog Tryz.lays189_ren := {
  mixed := by kernel_rfl
  f125 := Tryz.func71.trans (congrArg some (by kernel_rfl))
  f128 := Tryz.func90.trans (congrArg some (by kernel_rfl))
  f129 := Tryz.func91.trans (congrArg some (by kernel_rfl))
  f189 := Tryz.func54.trans (congrArg some (by kernel_rfl))
  f215 := Tryz.func110.trans (congrArg some (by kernel_rfl))
  f216 := Tryz.func87.trans (congrArg some (by kernel_rfl))
  f257 := Tryz.func70.trans (congrArg some (by kernel_rfl))
  f294 := Tryz.func81.trans (congrArg some (by kernel_rfl))
  f295 := Tryz.func82.trans (congrArg some (by kernel_rfl))
  f296 := Tryz.func83.trans (congrArg some (by kernel_rfl))
  f297 := Tryz.func84.trans (congrArg some (by kernel_rfl))
  f298 := Tryz.func85.trans (congrArg some (by kernel_rfl))
  f299 := Tryz.func86.trans (congrArg some (by kernel_rfl))
  f300 := Tryz.func88.trans (congrArg some (by kernel_rfl))
  f301 := Tryz.func89.trans (congrArg some (by kernel_rfl))
  f328 := Tryz.func105.trans (congrArg some (by kernel_rfl))
  f329 := Tryz.func106.trans (congrArg some (by kernel_rfl))
  f330 := Tryz.func107.trans (congrArg some (by kernel_rfl))
  f331 := Tryz.func108.trans (congrArg some (by kernel_rfl))
  f332 := Tryz.func109.trans (congrArg some (by kernel_rfl))
  f343 := Tryz.func116.trans (congrArg some (by kernel_rfl))
  t0 := Tryz.underlying0
  a0 := Tryz.isAgg0
  z0 := Tryz.sizeOf0
  v0 := Tryz.zeroValue0
  t3 := Tryz.underlying3
  a3 := Tryz.isAgg3
  z3 := Tryz.sizeOf3
  v3 := Tryz.zeroValue3
  t4 := Tryz.underlying4
  a4 := Tryz.isAgg4
  z4 := Tryz.sizeOf4
  v4 := Tryz.zeroValue4
  t5 := Tryz.underlying5
  a5 := Tryz.isAgg5
  z5 := Tryz.sizeOf5
  v5 := Tryz.zeroValue5
  t9 := Tryz.underlying9
  a9 := Tryz.isAgg9
  z9 := Tryz.sizeOf9
  v9 := Tryz.zeroValue9
  t28 := Tryz.underlying22
  a28 := Tryz.isAgg22
  z28 := Tryz.sizeOf22
  v28 := Tryz.zeroValue22
  t46 := Tryz.underlying128
  a46 := Tryz.isAgg128
  z46 := Tryz.sizeOf128
  v46 := Tryz.zeroValue128
  t51 := Tryz.underlying144
  a51 := Tryz.isAgg144
  z51 := Tryz.sizeOf144
  v51 := Tryz.zeroValue144
  t53 := Tryz.underlying146
  a53 := Tryz.isAgg146
  z53 := Tryz.sizeOf146
  v53 := Tryz.zeroValue146
  t131 := Tryz.underlying71
  a131 := Tryz.isAgg71
  z131 := Tryz.sizeOf71
  v131 := Tryz.zeroValue71
  t182 := Tryz.underlying136
  a182 := Tryz.isAgg136
  z182 := Tryz.sizeOf136
  v182 := Tryz.zeroValue136
  t183 := Tryz.underlying137
  a183 := Tryz.isAgg137
  z183 := Tryz.sizeOf137
  v183 := Tryz.zeroValue137
  t218 := Tryz.underlying154
  a218 := Tryz.isAgg154
  z218 := Tryz.sizeOf154
  v218 := Tryz.zeroValue154
  t222 := Tryz.underlying158
  a222 := Tryz.isAgg158
  z222 := Tryz.sizeOf158
  v222 := Tryz.zeroValue158
  t228 := Tryz.underlying162
  a228 := Tryz.isAgg162
  z228 := Tryz.sizeOf162
  v228 := Tryz.zeroValue162
  t229 := Tryz.underlying163
  a229 := Tryz.isAgg163
  z229 := Tryz.sizeOf163
  v229 := Tryz.zeroValue163 }
theorem Tryz.slices_Sort_int (blk off cap : Nat) (zs : List Int) (w : World) (hH : Holds (Value.int .i64) w blk off zs.toArray) (hblk : blk < w.heap.size) (hsz : zs.length < 4611686018427387904) :
    Calls Tryz.prog 54 #[.slice (some ⟨blk, off, none⟩) zs.length cap] w fun e w' =>
      e = .returned (.tuple #[]) ∧ ∃ n os, w' = grow (putRow (Value.int .i64) (Sort.ahead w n) blk off (zs.mergeSort fun x y => decide (x ≤ y)).toArray) os := Any.slices_Sort_int Tryz.lays189 blk off cap zs w hH hblk hsz
theorem Tryz.slices_Sort_int_none (p : Option Addr) (cap : Nat) (w : World) :
    Calls Tryz.prog 54 #[.slice p 0 cap] w fun e w' => e = .returned (.tuple #[]) ∧ w' = w := Any.slices_Sort_int_none Tryz.lays189 p cap w
end Go.Proofs
namespace Go.Proofs.YtpfidohkohldaaaGreatDoor
set_option linter.unusedSimpArgs false
set_option linter.unusedVariables false
set_option maxRecDepth 100000
open Go.ChangeShapes Go.WideShapes Go.ChangeAt Go.RowKit Go.Pin Go.Pat Go.Deep
/-- a builder that holds these bytes -/
def BD (B b : Nat) (l : List UInt8) (w : World) : Prop := Lib.IsBuilder 94 5 B b (Lib.byteCells l) w
theorem bd_new (w : World) : BD w.heap.size w.heap.size [] (w.alloc (.cells #[.pointer none, .slice none 0 0] 94)) := Lib.fresh_isBuilder _ _ w
theorem bwrite_any (B b : Nat) (l : List UInt8) (s : ByteArray) (w : World) (h : BD B b l w) (hl : l.length + s.size ≤ 140737488355328) (hB : B ≤ w.heap.size) :
    Calls Tryz.prog 46 #[.pointer (some ⟨b, 0, none⟩), .string s] w fun e w' => e = .returned (.tuple #[.int .i64 s.size, .nilIface]) ∧ BD B b (l ++ toL s) w' ∧ Below B w w' := by
  have hc : ∀ (a c : List UInt8), Lib.byteCells (a ++ c) = Lib.byteCells a ++ Lib.byteCells c := fun a c => by simp [Lib.byteCells]
  refine (Any.Builder_WriteString (ρ := Tryz.lays156_ren) { Tryz.lays156 with } Tryz.Builder_Extra_156 B b (Lib.byteCells l) s w h (by simpa [Lib.byteCells] using hl) hB).mono ?_
  rintro e w' ⟨rfl, h1, h2⟩
  refine ⟨rfl, .inr ?_, h2⟩
  rw [hc]
  exact h1
theorem bstring_any (B b : Nat) (l : List UInt8) (w : World) (h : BD B b l w) (hB : B ≤ w.heap.size) :
    Calls Tryz.prog 48 #[.pointer (some ⟨b, 0, none⟩)] w fun e w' => e = .returned (.string ⟨l.toArray⟩) ∧ Below B w w' :=
  Any.Builder_String_any (ρ := Tryz.lays156_ren) { Tryz.lays156 with } Tryz.Builder_Extra_156 B b l w h hB
theorem head_at {w : World} (h : Tabs w) (s : Nat) (hs : s < 2) : w.cell? ⟨6, s, none⟩ = some (.string (hdr s)) := by
  have := h.heads s (.string (hdr s)) (by rcases (by omega : s = 0 ∨ s = 1) with rfl | rfl <;> rfl)
  rw [Nat.zero_add] at this
  exact this
theorem word_at {w : World} (h : Tabs w) (k : Nat) (hk : k ≤ 7) : w.cell? ⟨7, k, none⟩ = some (.string (wrd k)) := by
  have := h.tokenWords k (.string (wrd k)) (by rcases (by omega : k = 0 ∨ k = 1 ∨ k = 2 ∨ k = 3 ∨ k = 4 ∨ k = 5 ∨ k = 6 ∨ k = 7) with rfl | rfl | rfl | rfl | rfl | rfl | rfl | rfl <;> rfl)
  rw [Nat.zero_add] at this
  exact this
set_option maxHeartbeats 4000000 in
theorem writeRow_any {ea : Int → Addr} (w0 : World) (hE : Errs ea w0) (B b : Nat) (hB0 : w0.heap.size ≤ B) (s : Nat) (hs : s < 2) (u : Value) (ts : List Int) (hu : RdN w0 u ts) (ht : ∀ t ∈ ts, T7 t) (h24 : ts.length ≤ 24) (l : List UInt8) (hl : l.length ≤ 100000)
    (w : World) (hw : Below w0.heap.size w0 w) (hB : B ≤ w.heap.size) (hb : BD B b l w) :
    Calls Tryz.prog 47 #[.pointer (some ⟨b, 0, none⟩), .int .i64 s, u] w fun e w' => e = .returned (.tuple #[]) ∧ BD B b (l ++ toL (row s ts)) w' ∧ Below B w w' := by
  obtain ⟨a, cap, rfl, _, _, _⟩ := id hu
  have hat := hu.at.2.2
  obtain ⟨L, hL⟩ : ∃ L, ts.length = L := ⟨_, rfl⟩
  rw [hL] at hat h24
  rw [hL]
  have HO : Hid (∀ y, Below B w y → Below w0.heap.size w0 y ∧ B ≤ y.heap.size) := fun y hy => ⟨hw.trans (hy.mono hB0), Nat.le_trans hB hy.size⟩
  have HE : Hid (∀ y, Below B w y → Errs ea y) := fun y hy => hE.below (HO.out y hy).1
  have HAT : Hid (∀ j, j < L → _) := hat
  have HM : Hid (ts.length = L ∧ L ≤ 24) := ⟨hL, h24⟩
  have HTT : Hid (∀ t ∈ ts, T7 t) := ht
  have HRN : Hid (∀ i, i ≤ L → (l ++ toL (rowN (hdr s) ts i)).length ≤ 100200) := fun i hi => by
    have := rowN_size (hdr s) ts i
    rw [hdr_size] at this
    rw [List.length_append, toL_len]
    omega
  have hd := head_at (HE.out w (Below.refl _ _)).2 s hs
  have bs : (s : Int) < 2 := by omega
  have C0 := bwrite_any B b l (hdr s) w hb (by rw [hdr_size]; omega) hB
  have HC0 : Hid _ := C0
  clear hat h24 hL hu ht hE hw hb C0
  go_enter Tryz.func47, Tryz.ntmps47
  go_wp2_with (go_at_call 46; refine Calls.mono HC0.out ?_; rintro e w1 ⟨rfl, h1, h2⟩; have H1 : Hid (BD B b (l ++ toL (hdr s)) w1 ∧ Below B w w1) := ⟨h1, h2⟩; clear h1 h2 hd)
  go_loopw [15] (fun v15 wr => ∃ i : Nat, i ≤ L ∧ v15 = .int .i64 i ∧ BD B b (l ++ toL (rowN (hdr s) ts i)) wr ∧ Below B w wr) (fun v _ => L - (intOf v).toNat)
  case atStart => exact ⟨0, Nat.zero_le _, rfl, H1.out⟩
  case round =>
    obtain ⟨i, hi, rfl, hb, hx⟩ := hrel
    by_cases hlt : i < L
    · have b1 : (i : Int) < (L : Int) := by omega
      have bL : (L : Int) ≤ 24 := by have := HM.out.2; omega
      obtain ⟨bb, o, rfl, hc⟩ := HAT.out i hlt
      have htt : T7 (ts.getD i 0) := HTT.out _ (by rw [getD_at (by rw [HM.out.1]; exact hlt)]; exact List.getElem_mem _)
      obtain ⟨k, hk⟩ : ∃ k : Nat, ts.getD i 0 = (k : Int) := ⟨(ts.getD i 0).toNat, by unfold T7 at htt; omega⟩
      have hk1 : 1 ≤ k ∧ k ≤ 7 := by unfold T7 at htt; omega
      have cT := hc wr (HO.out wr hx).1
      rw [hk] at cT
      have hlen := HRN.out i hi
      have wd := fun y hy => word_at (HE.out y hy).2 k hk1.2
      have bk : (k : Int) < 8 := by omega
      have bk1 : (1 : Int) ≤ k := by omega
      have hwz := wrd_size (k : Int)
      by_cases h0 : i = 0
      · have g0 : ¬ (0 : Int) < (i : Int) := by omega
        have g0' : ¬ 0 < i := by omega
        have e1 : toL (rowN (hdr s) ts (i + 1)) = toL (rowN (hdr s) ts i) ++ toL (wrd k) := by rw [rowN, if_pos h0, toL_app, hk]
        have C1 := bwrite_any B b _ (wrd k) wr hb (by omega) (HO.out wr hx).2
        rw [List.append_assoc, ← e1] at C1
        have HC1 : Hid _ := C1
        have wd1 := wd wr hx
        have HX : Hid (Below B w wr) := hx
        clear C1 e1 hb hx h0 hc hk htt hlen hi wd
        go_wp2_with (go_at_call 46; refine Calls.mono HC1.out ?_; rintro e w2 ⟨rfl, h1, h2⟩; have H2 : Hid (BD B b (l ++ toL (rowN (hdr s) ts (i + 1))) w2 ∧ Below B w w2) := ⟨h1, HX.out.trans h2⟩; clear h1 h2 wd1 cT)
        exact ⟨⟨i + 1, hlt, congrArg (Value.int .i64) (by omega), H2.out⟩, by show L - ((i : Int) + 1).toNat < L - ((i : Int)).toNat; omega⟩
      · have g0 : (0 : Int) < (i : Int) := by omega
        have g0' : 0 < i := by omega
        have e1 : toL (rowN (hdr s) ts (i + 1)) = (toL (rowN (hdr s) ts i) ++ toL ⟨#[44, 32]⟩) ++ toL (wrd k) := by rw [rowN, if_neg h0, toL_app, toL_app, hk]
        have e2 : (toL ⟨#[44, 32]⟩).length = 2 := rfl
        have C1 := bwrite_any B b _ ⟨#[44, 32]⟩ wr hb (by show _ + 2 ≤ _; omega) (HO.out wr hx).2
        have HC1 : Hid _ := C1
        have HC2 : Hid (∀ y, Below B w y → BD B b ((l ++ toL (rowN (hdr s) ts i)) ++ toL ⟨#[44, 32]⟩) y → Calls Tryz.prog 46 #[.pointer (some ⟨b, 0, none⟩), .string (wrd k)] y fun e w' => e = .returned (.tuple #[.int .i64 (wrd k).size, .nilIface]) ∧ BD B b (l ++ toL (rowN (hdr s) ts (i + 1))) w' ∧ Below B y w') := fun y hy hd => by
          have := bwrite_any B b _ (wrd k) y hd (by rw [List.length_append, e2]; omega) (HO.out y hy).2
          rw [List.append_assoc, List.append_assoc, ← List.append_assoc (toL _), ← e1] at this
          exact this
        have HX : Hid (Below B w wr) := hx
        have HWD : Hid _ := wd
        clear C1 e1 e2 hb hx h0 hc hk htt hlen hi wd
        go_upto_region 6 with (go_at_call 46; refine Calls.mono HC1.out ?_; rintro e w2 ⟨rfl, h1, h2⟩; have H2 : Hid (BD B b ((l ++ toL (rowN (hdr s) ts i)) ++ toL ⟨#[44, 32]⟩) w2 ∧ Below B w w2) := ⟨h1, HX.out.trans h2⟩; clear h1 h2 cT)
        have wd1 := HWD.out w2 H2.out.2
        have C2 := HC2.out w2 H2.out.2 H2.out.1
        have HC3 : Hid _ := C2
        clear C2
        go_wp2_with (go_at_call 46; refine Calls.mono HC3.out ?_; rintro e w3 ⟨rfl, h1, h2⟩; have H3 : Hid (BD B b (l ++ toL (rowN (hdr s) ts (i + 1))) w3 ∧ Below B w w3) := ⟨h1, H2.out.2.trans h2⟩; clear h1 h2 wd1)
        exact ⟨⟨i + 1, hlt, congrArg (Value.int .i64) (by omega), H3.out⟩, by show L - ((i : Int) + 1).toNat < L - ((i : Int)).toNat; omega⟩
    · have b1 : ¬ (i : Int) < (L : Int) := by omega
      have hiL : i = L := by omega
      have hlen := HRN.out i hi
      have C1 := bwrite_any B b _ ⟨#[10]⟩ wr hb (by show _ + 1 ≤ _; omega) (HO.out wr hx).2
      have e1 : l ++ toL (rowN (hdr s) ts i) ++ toL ⟨#[10]⟩ = l ++ toL (row s ts) := by
        unfold row
        rw [HM.out.1, hiL, toL_app, List.append_assoc]
      rw [e1] at C1
      have HC1 : Hid _ := C1
      have HX : Hid (Below B w wr) := hx
      clear C1 e1 hlen hb hx hiL hi
      go_wp2_with (go_at_call 46; refine Calls.mono HC1.out ?_; rintro e w2 ⟨rfl, h1, h2⟩; have H2 : Hid (BD B b (l ++ toL (row s ts)) w2 ∧ Below B w w2) := ⟨h1, HX.out.trans h2⟩; clear h1 h2)
      go_end0
      exact ⟨rfl, H2.out⟩
end Go.Proofs.YtpfidohkohldaaaGreatDoor
