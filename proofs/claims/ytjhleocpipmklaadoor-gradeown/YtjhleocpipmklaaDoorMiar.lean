import Derived.Shelf.Strings.Builder1
import Derived.Shelf.Strings.Builder2
import Derived.Shelf.Strings.OnBuilder
import Derived.Shelf.Small.Bits
import Derived.Shelf.Small.Wraps
import Derived.Shelf.Strconv.Itoa0
import Derived.Shelf.LaysM
import Derived.Shelf.Strconv.Clone
import Derived.Shelf.Sort.Plain
import Derived.Shelf.Strings.Prefix
import Derived.Shelf.Slices.Reverse
import Derived.Ground.Names2Prog
import Derived.Shelf.Slices.Clone
import Derived.Shelf.Slices.SearchI
import Derived.Shelf.Slices.Cells
import Derived.Shelf.Slices.In.SortNone
import Derived.Ground.SlgnProg
import Derived.Shelf.SlicesE.Clone
import Derived.Test.YtjhleocpipmklaaDoorProg
import Derived.Test.YtjhleocpipmklaaDoorMiaq
import Derived.Test.YtjhleocpipmklaaDoorMiag
import Derived.Test.YtjhleocpipmklaaDoorMiaa
/- contracts of Go's library, laid at this program -/
namespace Go.Proofs
set_option linter.unusedVariables false
open Go.Shelf Go.RowKit Go.Lib Go.Sort
def Tryd.lays156_ren : Go.Shelf.Ren := ⟨fun | 156 => 42 | 165 => 66 | 166 => 67 | 169 => 68 | 240 => 79 | 241 => 80 | 276 => 96 | 277 => 97 | n => n, fun | 31 => 74 | 9 => 9 | 3 => 3 | 4 => 4 | 0 => 0 | 20 => 20 | 72 => 114 | 76 => 116 | 70 => 111 | 37 => 112 | 75 => 32 | 127 => 133 | 164 => 149 | 5 => 5 | 80 => 118 | n => n, fun | n => n⟩
theorem Tryd.lays156 : Go.Proofs.Lays.n156 Tryd.prog Tryd.lays156_ren := {
  mixed := by kernel_rfl
  f156 := Tryd.func42.trans (congrArg some (by kernel_rfl))
  f165 := Tryd.func66.trans (congrArg some (by kernel_rfl))
  f166 := Tryd.func67.trans (congrArg some (by kernel_rfl))
  f169 := Tryd.func68.trans (congrArg some (by kernel_rfl))
  f240 := Tryd.func79.trans (congrArg some (by kernel_rfl))
  f241 := Tryd.func80.trans (congrArg some (by kernel_rfl))
  f276 := Tryd.func96.trans (congrArg some (by kernel_rfl))
  f277 := Tryd.func97.trans (congrArg some (by kernel_rfl))
  t0 := Tryd.underlying0
  a0 := Tryd.isAgg0
  z0 := Tryd.sizeOf0
  v0 := Tryd.zeroValue0
  t3 := Tryd.underlying3
  a3 := Tryd.isAgg3
  z3 := Tryd.sizeOf3
  v3 := Tryd.zeroValue3
  t4 := Tryd.underlying4
  a4 := Tryd.isAgg4
  z4 := Tryd.sizeOf4
  v4 := Tryd.zeroValue4
  t9 := Tryd.underlying9
  a9 := Tryd.isAgg9
  z9 := Tryd.sizeOf9
  v9 := Tryd.zeroValue9
  t20 := Tryd.underlying20
  a20 := Tryd.isAgg20
  z20 := Tryd.sizeOf20
  v20 := Tryd.zeroValue20
  t31 := Tryd.underlying74
  a31 := Tryd.isAgg74
  z31 := Tryd.sizeOf74
  v31 := Tryd.zeroValue74
  t37 := Tryd.underlying112
  a37 := Tryd.isAgg112
  z37 := Tryd.sizeOf112
  v37 := Tryd.zeroValue112
  t70 := Tryd.underlying111
  a70 := Tryd.isAgg111
  z70 := Tryd.sizeOf111
  v70 := Tryd.zeroValue111
  t72 := Tryd.underlying114
  a72 := Tryd.isAgg114
  z72 := Tryd.sizeOf114
  v72 := Tryd.zeroValue114
  t75 := Tryd.underlying32
  a75 := Tryd.isAgg32
  z75 := Tryd.sizeOf32
  v75 := Tryd.zeroValue32
  t76 := Tryd.underlying116
  a76 := Tryd.isAgg116
  z76 := Tryd.sizeOf116
  v76 := Tryd.zeroValue116
  t127 := Tryd.underlying133
  a127 := Tryd.isAgg133
  z127 := Tryd.sizeOf133
  v127 := Tryd.zeroValue133
  t164 := Tryd.underlying149
  a164 := Tryd.isAgg149
  z164 := Tryd.sizeOf149
  v164 := Tryd.zeroValue149 }
theorem Tryd.Builder_Extra_156 : Builder.Extra Tryd.prog Tryd.lays156_ren := {
  sizeBuilder := by kernel_rfl
  liesBuilder := by kernel_rfl
  t5 := Tryd.underlying5
  a5 := Tryd.isAgg5
  z5 := Tryd.sizeOf5
  v5 := Tryd.zeroValue5
  infoByte := by kernel_rfl
  cellsByte := by kernel_rfl
  sizeByte := by kernel_rfl
  neB5 := by decide }
theorem Tryd.strings_Join_none (a : Option Addr) (c : Nat) (sep : ByteArray) (w : World) :
    Calls Tryd.prog 42 #[.slice a 0 c, .string sep] w fun e w' => e = .returned (.string ⟨#[]⟩) ∧ w' = w := Any.strings_Join_none Tryd.lays156 Tryd.Builder_Extra_156 a c sep w
theorem Tryd.strings_Join (bk o c : Nat) (xs : List ByteArray) (sep : ByteArray) (w : World) (hcells : ∀ (j : Nat) x, xs[j]? = some x → w.cell? ⟨bk, o + j, none⟩ = some (.string x)) (hbk : bk < w.heap.size) (hN : xs.length ≤ 140737488355328) (hcap : xs.length ≤ c) (hlen : (Lib.join (xs.map (·.data.toList)) sep.data.toList).length ≤ 140737488355328) :
    Calls Tryd.prog 42 #[.slice (some ⟨bk, o, none⟩) xs.length c, .string sep] w fun e w' => e = .returned (.string ⟨(Lib.join (xs.map (·.data.toList)) sep.data.toList).toArray⟩) ∧ Below w.heap.size w w' := Any.strings_Join Tryd.lays156 Tryd.Builder_Extra_156 bk o c xs sep w hcells hbk hN hcap hlen
def Tryd.lays103_ren : Go.Shelf.Ren := ⟨fun | 103 => 76 | 210 => 94 | 206 => 110 | n => n, fun | 9 => 9 | 4 => 4 | 24 => 130 | 3 => 3 | n => n, fun | n => n⟩
theorem Tryd.lays103 : Go.Proofs.Lays.n103 Tryd.prog Tryd.lays103_ren := {
  mixed := by kernel_rfl
  f103 := Tryd.func76.trans (congrArg some (by kernel_rfl))
  f206 := Tryd.func110.trans (congrArg some (by kernel_rfl))
  f210 := Tryd.func94.trans (congrArg some (by kernel_rfl))
  t3 := Tryd.underlying3
  a3 := Tryd.isAgg3
  z3 := Tryd.sizeOf3
  v3 := Tryd.zeroValue3
  t4 := Tryd.underlying4
  a4 := Tryd.isAgg4
  z4 := Tryd.sizeOf4
  v4 := Tryd.zeroValue4
  t9 := Tryd.underlying9
  a9 := Tryd.isAgg9
  z9 := Tryd.sizeOf9
  v9 := Tryd.zeroValue9
  t24 := Tryd.underlying130
  a24 := Tryd.isAgg130
  z24 := Tryd.sizeOf130
  v24 := Tryd.zeroValue130 }
theorem Tryd.strings_CutPrefix (s p : ByteArray) (w : World) :
    Calls Tryd.prog 76 #[.string s, .string p] w fun e w' => e = .returned (.tuple #[.string ⟨(Lib.trimPrefix s.data.toList p.data.toList).toArray⟩, .bool (Lib.hasPrefix s.data.toList p.data.toList)]) ∧ w' = w := Any.strings_CutPrefix Tryd.lays103 s p w
def Tryd.laysM316_ren : Go.Shelf.Ren := ⟨fun | 316 => 65 | n => n, fun | 9 => 9 | 3 => 3 | 4 => 4 | 37 => 112 | 0 => 0 | 127 => 133 | 5 => 5 | n => n, fun | n => n⟩
theorem Tryd.laysM316 : Go.Proofs.LaysM.n316 Tryd.prog Tryd.laysM316_ren := {
  mixed := by kernel_rfl
  f316 := Tryd.func65.trans (congrArg some (by kernel_rfl))
  t0 := Tryd.underlying0
  a0 := Tryd.isAgg0
  z0 := Tryd.sizeOf0
  v0 := Tryd.zeroValue0
  t3 := Tryd.underlying3
  a3 := Tryd.isAgg3
  z3 := Tryd.sizeOf3
  v3 := Tryd.zeroValue3
  t4 := Tryd.underlying4
  a4 := Tryd.isAgg4
  z4 := Tryd.sizeOf4
  v4 := Tryd.zeroValue4
  t9 := Tryd.underlying9
  a9 := Tryd.isAgg9
  z9 := Tryd.sizeOf9
  v9 := Tryd.zeroValue9
  t37 := Tryd.underlying112
  a37 := Tryd.isAgg112
  z37 := Tryd.sizeOf112
  v37 := Tryd.zeroValue112
  t127 := Tryd.underlying133
  a127 := Tryd.isAgg133
  z127 := Tryd.sizeOf133
  v127 := Tryd.zeroValue133
  t5 := Tryd.underlying5
  a5 := Tryd.isAgg5
  z5 := Tryd.sizeOf5
  v5 := Tryd.zeroValue5
  i0 := by kernel_rfl
  i3 := by kernel_rfl
  i4 := by kernel_rfl
  i5 := by kernel_rfl
  i9 := by kernel_rfl
  i37 := by kernel_rfl
  i127 := by kernel_rfl }
theorem Tryd.stringslite_Clone (s : ByteArray) (w : World) (hlim : s.size ≤ 281474976710656) :
    Calls Tryd.prog 65 #[.string s] w fun e w' => e = .returned (.string s) ∧ Below w.heap.size w w' := Any.stringslite_Clone Tryd.laysM316 s w hlim
def Tryd.laysNm215_ren : Go.Shelf.Ren := ⟨fun | 15 => 59 | n => n, fun | 22 => 22 | 3 => 3 | 4 => 4 | n => n, fun | n => n⟩
theorem Tryd.laysNm215 : Go.Proofs.Lays2.n15 Tryd.prog Tryd.laysNm215_ren := {
  mixed := by kernel_rfl
  f15 := Tryd.func59.trans (congrArg some (by kernel_rfl))
  t3 := Tryd.underlying3
  a3 := Tryd.isAgg3
  z3 := Tryd.sizeOf3
  v3 := Tryd.zeroValue3
  t4 := Tryd.underlying4
  a4 := Tryd.isAgg4
  z4 := Tryd.sizeOf4
  v4 := Tryd.zeroValue4
  t22 := Tryd.underlying22
  a22 := Tryd.isAgg22
  z22 := Tryd.sizeOf22
  v22 := Tryd.zeroValue22
  i3 := by kernel_rfl }
theorem Tryd.slices_Clone_int (b off n c : Nat) (zs : List Int) (w : World) (hz : n ≤ zs.length) (hbig : n * 8 ≤ 140737488355328) (hc : ∀ j, j < zs.length → w.cell? ⟨b, off + j, none⟩ = some (.int .i64 (zs.getD j 0))) :
    Calls Tryd.prog 59 #[.slice (some ⟨b, off, none⟩) n c] w fun e w' => ∃ v', e = .returned v' ∧ w'.ownsRow w.heap.size 3 1 v' n ((zs.take n).map (Value.int .i64)) ∧ v' ≠ .slice none 0 0 ∧ Below w.heap.size w w' := Any.slices_Clone_int Tryd.laysNm215 b off n c zs w hz hbig hc
theorem Tryd.slices_Clone_int_nil (n c : Nat) (w : World) :
    Calls Tryd.prog 59 #[.slice none n c] w fun e w' => e = .returned (.slice none 0 0) ∧ w' = w := Any.slices_Clone_int_nil Tryd.laysNm215 n c w
theorem Tryd.slices_Clone_int_zero (a : Addr) (c : Nat) (w : World) :
    Calls Tryd.prog 59 #[.slice (some a) 0 c] w fun e w' => ∃ v', e = .returned v' ∧ w'.ownsRow w.heap.size 3 1 v' 0 [] ∧ v' ≠ .slice none 0 0 ∧ Below w.heap.size w w' := Any.slices_Clone_int_zero Tryd.laysNm215 a c w
def Tryd.lays189_ren : Go.Shelf.Ren := ⟨fun | 189 => 62 | 125 => 75 | 257 => 74 | 128 => 92 | 129 => 93 | 294 => 83 | 295 => 84 | 296 => 85 | 297 => 86 | 298 => 87 | 299 => 88 | 216 => 89 | 300 => 90 | 301 => 91 | 328 => 104 | 329 => 105 | 330 => 106 | 331 => 107 | 332 => 108 | 215 => 109 | 343 => 114 | n => n, fun | 28 => 22 | 3 => 3 | 46 => 129 | 0 => 0 | 51 => 146 | 53 => 148 | 4 => 4 | 183 => 139 | 182 => 138 | 131 => 78 | 5 => 5 | 9 => 9 | 218 => 158 | 222 => 162 | 228 => 168 | 229 => 169 | n => n, fun | n => n⟩
theorem Tryd.lays189 : Go.Proofs.Lays.n189 Tryd.prog Tryd.lays189_ren := {
  mixed := by kernel_rfl
  f125 := Tryd.func75.trans (congrArg some (by kernel_rfl))
  f128 := Tryd.func92.trans (congrArg some (by kernel_rfl))
  f129 := Tryd.func93.trans (congrArg some (by kernel_rfl))
  f189 := Tryd.func62.trans (congrArg some (by kernel_rfl))
  f215 := Tryd.func109.trans (congrArg some (by kernel_rfl))
  f216 := Tryd.func89.trans (congrArg some (by kernel_rfl))
  f257 := Tryd.func74.trans (congrArg some (by kernel_rfl))
  f294 := Tryd.func83.trans (congrArg some (by kernel_rfl))
  f295 := Tryd.func84.trans (congrArg some (by kernel_rfl))
  f296 := Tryd.func85.trans (congrArg some (by kernel_rfl))
  f297 := Tryd.func86.trans (congrArg some (by kernel_rfl))
  f298 := Tryd.func87.trans (congrArg some (by kernel_rfl))
  f299 := Tryd.func88.trans (congrArg some (by kernel_rfl))
  f300 := Tryd.func90.trans (congrArg some (by kernel_rfl))
  f301 := Tryd.func91.trans (congrArg some (by kernel_rfl))
  f328 := Tryd.func104.trans (congrArg some (by kernel_rfl))
  f329 := Tryd.func105.trans (congrArg some (by kernel_rfl))
  f330 := Tryd.func106.trans (congrArg some (by kernel_rfl))
  f331 := Tryd.func107.trans (congrArg some (by kernel_rfl))
  f332 := Tryd.func108.trans (congrArg some (by kernel_rfl))
  f343 := Tryd.func114.trans (congrArg some (by kernel_rfl))
  t0 := Tryd.underlying0
  a0 := Tryd.isAgg0
  z0 := Tryd.sizeOf0
  v0 := Tryd.zeroValue0
  t3 := Tryd.underlying3
  a3 := Tryd.isAgg3
  z3 := Tryd.sizeOf3
  v3 := Tryd.zeroValue3
  t4 := Tryd.underlying4
  a4 := Tryd.isAgg4
  z4 := Tryd.sizeOf4
  v4 := Tryd.zeroValue4
  t5 := Tryd.underlying5
  a5 := Tryd.isAgg5
  z5 := Tryd.sizeOf5
  v5 := Tryd.zeroValue5
  t9 := Tryd.underlying9
  a9 := Tryd.isAgg9
  z9 := Tryd.sizeOf9
  v9 := Tryd.zeroValue9
  t28 := Tryd.underlying22
  a28 := Tryd.isAgg22
  z28 := Tryd.sizeOf22
  v28 := Tryd.zeroValue22
  t46 := Tryd.underlying129
  a46 := Tryd.isAgg129
  z46 := Tryd.sizeOf129
  v46 := Tryd.zeroValue129
  t51 := Tryd.underlying146
  a51 := Tryd.isAgg146
  z51 := Tryd.sizeOf146
  v51 := Tryd.zeroValue146
  t53 := Tryd.underlying148
  a53 := Tryd.isAgg148
  z53 := Tryd.sizeOf148
  v53 := Tryd.zeroValue148
  t131 := Tryd.underlying78
  a131 := Tryd.isAgg78
  z131 := Tryd.sizeOf78
  v131 := Tryd.zeroValue78
  t182 := Tryd.underlying138
  a182 := Tryd.isAgg138
  z182 := Tryd.sizeOf138
  v182 := Tryd.zeroValue138
  t183 := Tryd.underlying139
  a183 := Tryd.isAgg139
  z183 := Tryd.sizeOf139
  v183 := Tryd.zeroValue139
  t218 := Tryd.underlying158
  a218 := Tryd.isAgg158
  z218 := Tryd.sizeOf158
  v218 := Tryd.zeroValue158
  t222 := Tryd.underlying162
  a222 := Tryd.isAgg162
  z222 := Tryd.sizeOf162
  v222 := Tryd.zeroValue162
  t228 := Tryd.underlying168
  a228 := Tryd.isAgg168
  z228 := Tryd.sizeOf168
  v228 := Tryd.zeroValue168
  t229 := Tryd.underlying169
  a229 := Tryd.isAgg169
  z229 := Tryd.sizeOf169
  v229 := Tryd.zeroValue169 }
theorem Tryd.slices_Sort_int (blk off cap : Nat) (zs : List Int) (w : World) (hH : Holds (Value.int .i64) w blk off zs.toArray) (hblk : blk < w.heap.size) (hsz : zs.length < 4611686018427387904) :
    Calls Tryd.prog 62 #[.slice (some ⟨blk, off, none⟩) zs.length cap] w fun e w' =>
      e = .returned (.tuple #[]) ∧ ∃ n os, w' = grow (putRow (Value.int .i64) (Sort.ahead w n) blk off (zs.mergeSort fun x y => decide (x ≤ y)).toArray) os := Any.slices_Sort_int Tryd.lays189 blk off cap zs w hH hblk hsz
theorem Tryd.slices_Sort_int_none (p : Option Addr) (cap : Nat) (w : World) :
    Calls Tryd.prog 62 #[.slice p 0 cap] w fun e w' => e = .returned (.tuple #[]) ∧ w' = w := Any.slices_Sort_int_none Tryd.lays189 p cap w
end Go.Proofs
namespace Go.Proofs.YtjhleocpipmklaaDoor
set_option linter.unusedSimpArgs false
set_option linter.unusedVariables false
set_option maxRecDepth 100000
open Go.ChangeShapes Go.WideShapes Go.ChangeAt Go.RowKit Go.Pin Go.Pat Go.Deep
/-- a builder that holds these bytes -/
def BD (B b : Nat) (l : List UInt8) (w : World) : Prop := Lib.IsBuilder 114 5 B b (Lib.byteCells l) w
theorem bd_new (w : World) : BD w.heap.size w.heap.size [] (w.alloc (.cells #[.pointer none, .slice none 0 0] 114)) := Lib.fresh_isBuilder _ _ w
theorem bwrite_any (B b : Nat) (l : List UInt8) (s : ByteArray) (w : World) (h : BD B b l w) (hl : l.length + s.size ≤ 140737488355328) (hB : B ≤ w.heap.size) :
    Calls Tryd.prog 67 #[.pointer (some ⟨b, 0, none⟩), .string s] w fun e w' => e = .returned (.tuple #[.int .i64 s.size, .nilIface]) ∧ BD B b (l ++ toL s) w' ∧ Below B w w' := by
  have hc : ∀ (a c : List UInt8), Lib.byteCells (a ++ c) = Lib.byteCells a ++ Lib.byteCells c := fun a c => by simp [Lib.byteCells]
  refine (Any.Builder_WriteString (ρ := Tryd.lays156_ren) { Tryd.lays156 with } Tryd.Builder_Extra_156 B b (Lib.byteCells l) s w h (by simpa [Lib.byteCells] using hl) hB).mono ?_
  rintro e w' ⟨rfl, h1, h2⟩
  refine ⟨rfl, .inr ?_, h2⟩
  rw [hc]
  exact h1
theorem bstring_any (B b : Nat) (l : List UInt8) (w : World) (h : BD B b l w) (hB : B ≤ w.heap.size) :
    Calls Tryd.prog 68 #[.pointer (some ⟨b, 0, none⟩)] w fun e w' => e = .returned (.string ⟨l.toArray⟩) ∧ Below B w w' :=
  Any.Builder_String_any (ρ := Tryd.lays156_ren) { Tryd.lays156 with } Tryd.Builder_Extra_156 B b l w h hB
theorem head_at {w : World} (h : Tabs w) (s : Nat) (hs : s < 2) : w.cell? ⟨9, s, none⟩ = some (.string (hdr s)) := by
  have := h.heads s (.string (hdr s)) (by rcases (by omega : s = 0 ∨ s = 1) with rfl | rfl <;> rfl)
  rw [Nat.zero_add] at this
  exact this
theorem word_at {w : World} (h : Tabs w) (k : Nat) (hk : k ≤ 7) : w.cell? ⟨10, k, none⟩ = some (.string (wrd k)) := by
  have := h.tokenWords k (.string (wrd k)) (by rcases (by omega : k = 0 ∨ k = 1 ∨ k = 2 ∨ k = 3 ∨ k = 4 ∨ k = 5 ∨ k = 6 ∨ k = 7) with rfl | rfl | rfl | rfl | rfl | rfl | rfl | rfl <;> rfl)
  rw [Nat.zero_add] at this
  exact this
end Go.Proofs.YtjhleocpipmklaaDoor
namespace Go.Proofs.YtjhleocpipmklaaDoor
set_option linter.unusedSimpArgs false
set_option linter.unusedVariables false
set_option maxRecDepth 100000
open Go.ChangeShapes Go.WideShapes Go.ChangeAt Go.RowKit Go.Pin Go.Pat Go.Deep
def wr1 (l : List UInt8) (s : Int) (ts : List Int) : List UInt8 := if ts.length = 0 then l else l ++ toL (row s ts)
/-- what is written behind the name, ahead of the messages -/
def wrB (p : Pt) : Nat → List UInt8
  | 0 => [58, 10]
  | 1 => wr1 [58, 10] 0 p.b0
  | _ => wr1 (wr1 [58, 10] 0 p.b0) 1 p.b1
def wrD (p : Pt) : List UInt8 := if 0 < p.b0.length + p.b1.length then wrB p 2 ++ [32, 32, 46, 46, 46, 10] else wrB p 2
def wrN (p : Pt) : Nat → List UInt8
  | 0 => wrD p
  | i + 1 => wrN p i ++ toL (row (p.ln.getD i (0, [])).1 (p.ln.getD i (0, [])).2)
def wrt (p : Pt) : List UInt8 := wrN p p.ln.length
theorem bef_wr1 (s : ByteArray) (l a : List UInt8) (h : toL s = a ++ l) (side : Int) (ts : List Int) : toL (bef s side ts) = a ++ wr1 l side ts := by
  unfold bef wr1
  split
  · exact h
  · rw [toL_app, h, List.append_assoc]
theorem txt_wrt (p : Pt) : toL (txt p) = toL p.nm ++ wrt p := by
  have h0 : toL (txH p) = toL p.nm ++ wrD p := by
    have e := bef_wr1 _ _ _ (bef_wr1 (p.nm ++ ⟨#[58, 10]⟩) [58, 10] (toL p.nm) (toL_app _ _) 0 p.b0) 1 p.b1
    unfold txH dots wrD
    split
    · rw [toL_app, e, List.append_assoc]
      rfl
    · exact e
  have hN : ∀ i, toL (txN p i) = toL p.nm ++ wrN p i := fun i => by
    induction i with
    | zero => exact h0
    | succ i ih => rw [txN, wrN, toL_app, ih, List.append_assoc]
  exact hN _
theorem wrB_len (p : Pt) (h0 : p.b0.length ≤ 2) (h1 : p.b1.length ≤ 2) : ∀ j, (wrB p j).length ≤ 100 := by
  have k : ∀ (l : List UInt8) (s : Int) (ts : List Int), (wr1 l s ts).length ≤ l.length + (6 + 5 * ts.length) := fun l s ts => by
    unfold wr1
    split
    · omega
    · have := row_size s ts
      rw [List.length_append, toL_len]
      omega
  intro j
  match j with
  | 0 => simp [wrB]
  | 1 => have := k [58, 10] 0 p.b0; simp only [wrB]; simp at this ⊢; omega
  | j + 2 =>
    have e1 := k [58, 10] 0 p.b0
    have e2 := k (wr1 [58, 10] 0 p.b0) 1 p.b1
    simp only [wrB]
    simp at e1
    omega
theorem wrN_len (p : Pt) (h : shaped p = true) : ∀ i, i ≤ p.ln.length → (wrN p i).length ≤ 200 + 126 * i := by
  obtain ⟨h0, h1, _, hn, hl⟩ := shaped_all h
  intro i
  induction i with
  | zero =>
    intro _
    have := wrB_len p h0 h1 2
    show (wrD p).length ≤ _
    unfold wrD
    split
    · rw [List.length_append]; simp; omega
    · omega
  | succ i ih =>
    intro hi
    have hmem : p.ln.getD i (0, []) ∈ p.ln := by
      rw [show p.ln.getD i (0, []) = p.ln[i] by simp [List.getD, show i < p.ln.length by omega]]
      exact List.getElem_mem _
    have h2 := (hl _ hmem).2.2.1
    have := row_size (p.ln.getD i (0, [])).1 (p.ln.getD i (0, [])).2
    rw [wrN, List.length_append, toL_len]
    have := ih (by omega)
    omega
theorem BD.below {B b : Nat} {l : List UInt8} {w w' : World} (h : BD B b l w) (hb : Below w.heap.size w w') : BD B b l w' := by
  have k : ∀ p, Lib.BuilderAt 114 5 B b p (Lib.byteCells l) w → Lib.BuilderAt 114 5 B b p (Lib.byteCells l) w' := by
    rintro p ⟨h1, v, h2, h3, h4⟩
    refine ⟨h1, v, (hb.block b (Array.getElem?_eq_some_iff.1 h2).1).trans h2, ?_, h4⟩
    exact owns_below hb h3
  rcases h with h | h
  · exact .inl (k _ h)
  · exact .inr (k _ h)
end Go.Proofs.YtjhleocpipmklaaDoor
namespace Go.Proofs.YtjhleocpipmklaaDoor
set_option linter.unusedSimpArgs false
set_option linter.unusedVariables false
set_option maxRecDepth 100000
open Go.ChangeShapes Go.WideShapes Go.ChangeAt Go.RowKit Go.Pin Go.Pat Go.Deep
end Go.Proofs.YtjhleocpipmklaaDoor
/- a pattern that is being built in a box of one's own: its lists lie in blocks behind the box, none of them the list of lines' own -/
namespace Go.Proofs.YtjhleocpipmklaaDoor
set_option linter.unusedSimpArgs false
set_option linter.unusedVariables false
open Go.ChangeShapes Go.WideShapes Go.ChangeAt Go.RowKit Go.Pin Go.Pat
/-- numbers that are read, in blocks of S -/
def FtN (S : Nat → Prop) (w : World) (v : Value) (C : List Int) : Prop :=
  ∃ a cap, v = .slice a C.length cap ∧ (C.length ≤ cap ∧ (a = none → cap = 0)) ∧ C.length ≤ 140737488355328 ∧ (C = [] ∨ ∃ b o, S b ∧ a = some ⟨b, o, none⟩ ∧ w.rangeAt b o (C.map (Value.int .i64)))
section
variable {S T : Nat → Prop} {w w' W : World} {v : Value} {C : List Int}
theorem FtN.rd (h : FtN S w v C) : RdN w v C := by
  obtain ⟨a, c, e, h1, h2, h3⟩ := h
  refine ⟨a, c, e, h1, h2, ?_⟩
  rcases h3 with h3 | ⟨b, o, _, h4, h5⟩
  · exact .inl h3
  · exact .inr ⟨b, o, h4, h5⟩
theorem FtN.mono (h : FtN S w v C) (hs : ∀ b, S b → T b) : FtN T w v C := by
  obtain ⟨a, c, e, h1, h2, h3⟩ := h
  refine ⟨a, c, e, h1, h2, ?_⟩
  rcases h3 with h3 | ⟨b, o, h0, h4, h5⟩
  · exact .inl h3
  · exact .inr ⟨b, o, hs b h0, h4, h5⟩
theorem FtN.keep (h : FtN S w v C) (hk : ∀ b, S b → w'.heap[b]? = w.heap[b]?) : FtN S w' v C := by
  obtain ⟨a, c, e, h1, h2, h3⟩ := h
  refine ⟨a, c, e, h1, h2, ?_⟩
  rcases h3 with h3 | ⟨b, o, h0, h4, h5⟩
  · exact .inl h3
  · exact .inr ⟨b, o, h0, h4, fun j x hx => by rw [World.cell?_of_block (a := ⟨b, o + j, none⟩) (hk b h0)]; exact h5 j x hx⟩
theorem FtN.one (h : FtN S w v C) : v.oneCell' = true := by
  obtain ⟨a, c, rfl, _⟩ := h
  rfl
theorem ft_nil (S : Nat → Prop) (w : World) : FtN S w (.slice none 0 0) [] := ⟨none, 0, rfl, ⟨Nat.le_refl _, fun _ => rfl⟩, by simp, .inl rfl⟩
theorem own_ft {b n : Nat} (h : w.ownsRow b 3 1 v n (C.map (Value.int .i64))) (hn : n = C.length) (hC : C.length ≤ 140737488355328) : FtN (fun k => b ≤ k ∧ k < w.heap.size) w v C := by
  subst hn
  obtain ⟨a, c, e, h1, h2, h3⟩ := own_ints h hC
  refine ⟨a, c, e, h1, h2, ?_⟩
  rcases h3 with h3 | ⟨b', o, h4, h5⟩
  · exact .inl h3
  · by_cases h0 : C = []
    · exact .inl h0
    · refine .inr ⟨b', o, ?_, h4, h5⟩
      have hb : v.ownBlock = some b' := by rw [e, h4]; rfl
      exact h.lt b' hb
end
/-- a line in the making: who, the tokens' value, the tokens -/
abbrev Lv := Int × Value × List Int
def lvc (fs : List Lv) : List Value := fs.flatMap fun g => [.int .i64 g.1, g.2.1]
def lvl (fs : List Lv) : List Ln := fs.map fun g => (g.1, g.2.2)
theorem lvc_length (l : List Lv) : (lvc l).length = l.length * 2 := by
  induction l with
  | nil => rfl
  | cons g r ih => simp [lvc] at ih ⊢; omega
theorem lvc_snoc (l : List Lv) (g : Lv) : lvc (l ++ [g]) = lvc l ++ [.int .i64 g.1, g.2.1] := by simp [lvc]
theorem lvl_snoc (l : List Lv) (g : Lv) : lvl (l ++ [g]) = lvl l ++ [(g.1, g.2.2)] := by simp [lvl]
theorem lvc_at (l : List Lv) : ∀ (j : Nat), j < l.length → (lvc l)[j * 2]? = some (.int .i64 (l.getD j (0, undef, [])).1) ∧ (lvc l)[j * 2 + 1]? = some (l.getD j (0, undef, [])).2.1 := by
  induction l with
  | nil => intro j hj; simp at hj
  | cons g r ih =>
    intro j hj
    cases j with
    | zero => simp [lvc]
    | succ j =>
      have := ih j (by simpa using hj)
      have e : lvc (g :: r) = .int .i64 g.1 :: g.2.1 :: lvc r := by simp [lvc]
      rw [e, show (j + 1) * 2 = j * 2 + 1 + 1 by omega]
      simpa using this
def Fr (gp : Nat) (vl : Value) (w : World) (b : Nat) : Prop := gp < b ∧ b < w.heap.size ∧ some b ≠ vl.ownBlock
structure PS (gp : Nat) (w0 : World) (nm : ByteArray) (v0 v1 vl : Value) (b0 b1 : List Int) (fs : List Lv) (wr : World) : Prop where
  old : Below gp w0 wr
  lt : gp < wr.heap.size
  row : wr.heap[gp]? = some (.cells #[.string nm, v0, v1, vl] 26)
  f0 : FtN (Fr gp vl wr) wr v0 b0
  f1 : FtN (Fr gp vl wr) wr v1 b1
  own : wr.ownsRow (gp + 1) 43 2 vl fs.length (lvc fs)
  ft : ∀ f ∈ fs, FtN (Fr gp vl wr) wr f.2.1 f.2.2
section
variable {gp : Nat} {w0 wr w' : World} {nm : ByteArray} {v0 v1 vl : Value} {b0 b1 : List Int} {fs : List Lv}
/-- free blocks stay free, and as they were -/
def Kp (gp : Nat) (vl : Value) (wr : World) (vn : Value) (w' : World) : Prop := ∀ b, Fr gp vl wr b → Fr gp vn w' b ∧ w'.heap[b]? = wr.heap[b]?
theorem Kp.trans {gp : Nat} {a b c : Value} {w1 w2 w3 : World} (h : Kp gp a w1 b w2) (k : Kp gp b w2 c w3) : Kp gp a w1 c w3 := fun x hx => ⟨(k x (h x hx).1).1, (k x (h x hx).1).2.trans (h x hx).2⟩
theorem FtN.kp {gp : Nat} {a b v : Value} {w1 w2 : World} {C : List Int} (h : FtN (Fr gp a w1) w1 v C) (k : Kp gp a w1 b w2) : FtN (Fr gp b w2) w2 v C := (h.keep fun x hx => (k x hx).2).mono fun x hx => (k x hx).1
/-- texts that are read, in blocks of S -/
def FtS (S : Nat → Prop) (w : World) (v : Value) (L : List ByteArray) : Prop :=
  ∃ a cap, v = .slice a L.length cap ∧ ∀ j, j < L.length → ∃ b o, S b ∧ a = some ⟨b, o, none⟩ ∧ w.cell? ⟨b, o + j, none⟩ = some (.string (L.getD j ⟨#[]⟩))
theorem FtS.kp {gp : Nat} {a b v : Value} {w1 w2 : World} {L : List ByteArray} (h : FtS (Fr gp a w1) w1 v L) (k : Kp gp a w1 b w2) : FtS (Fr gp b w2) w2 v L := by
  obtain ⟨ad, c, e, h3⟩ := h
  refine ⟨ad, c, e, fun j hj => ?_⟩
  obtain ⟨x, o, g0, g1, g2⟩ := h3 j hj
  exact ⟨x, o, (k x g0).1, g1, by rw [World.cell?_of_block (a := ⟨x, o + j, none⟩) (k x g0).2]; exact g2⟩
theorem FtS.mono {S T : Nat → Prop} {w : World} {v : Value} {L : List ByteArray} (h : FtS S w v L) (hs : ∀ b, S b → T b) : FtS T w v L := by
  obtain ⟨ad, c, e, h3⟩ := h
  refine ⟨ad, c, e, fun j hj => ?_⟩
  obtain ⟨x, o, g0, g1, g2⟩ := h3 j hj
  exact ⟨x, o, hs x g0, g1, g2⟩
theorem FtS.at {S : Nat → Prop} {w : World} {a : Option Addr} {n cap : Nat} {L : List ByteArray} (h : FtS S w (.slice a n cap) L) {j : Nat} (hj : j < n) : n = L.length ∧ ∃ b o, S b ∧ a = some ⟨b, o, none⟩ ∧ w.cell? ⟨b, o + j, none⟩ = some (.string (L.getD j ⟨#[]⟩)) := by
  obtain ⟨a', c', e, h3⟩ := h
  injection e with e1 e2 e3
  subst e1 e2 e3
  exact ⟨rfl, h3 j hj⟩
theorem own_fts {w : World} {b n : Nat} {v : Value} {L : List ByteArray} (h : w.ownsRow b 9 1 v n (L.map Value.string)) (hn : n = L.length) : FtS (fun k => b ≤ k ∧ k < w.heap.size) w v L := by
  subst hn
  obtain ⟨a, cap, e, h3⟩ := own_strs h
  refine ⟨a, cap, e, fun j hj => ?_⟩
  obtain ⟨x, o, g1, g2⟩ := h3 j hj
  have hb : v.ownBlock = some x := by rw [e, g1]; rfl
  exact ⟨x, o, h.lt x hb, g1, g2⟩
theorem PS.c0 (h : PS gp w0 nm v0 v1 vl b0 b1 fs wr) : wr.cell? ⟨gp, 0, none⟩ = some (.string nm) := by rw [cell_of_row _ _ _ _ _ _ h.row]; rfl
theorem PS.c1 (h : PS gp w0 nm v0 v1 vl b0 b1 fs wr) : wr.cell? ⟨gp, 1, none⟩ = some v0 := by rw [cell_of_row _ _ _ _ _ _ h.row]; rfl
theorem PS.c2 (h : PS gp w0 nm v0 v1 vl b0 b1 fs wr) : wr.cell? ⟨gp, 2, none⟩ = some v1 := by rw [cell_of_row _ _ _ _ _ _ h.row]; rfl
theorem PS.c3 (h : PS gp w0 nm v0 v1 vl b0 b1 fs wr) : wr.cell? ⟨gp, 3, none⟩ = some vl := by rw [cell_of_row _ _ _ _ _ _ h.row]; rfl
theorem PS.fz (h : PS gp w0 nm v0 v1 vl b0 b1 fs wr) (j : Nat) : wr.frozen? ⟨gp, j, none⟩ = false := frozen_of_row _ _ _ _ _ h.row
theorem PS.one (h : PS gp w0 nm v0 v1 vl b0 b1 fs wr) : vl.oneCell' = true := by obtain ⟨a, c, rfl⟩ := own_slice' h.own; rfl
/-- the blocks that a built pattern reads stay: then it stays -/
theorem PS.keeps (h : PS gp w0 nm v0 v1 vl b0 b1 fs wr) (hb : ∀ b, gp ≤ b → b < wr.heap.size → w'.heap[b]? = wr.heap[b]?) (hs : wr.heap.size ≤ w'.heap.size) (hold : Below gp w0 w') : PS gp w0 nm v0 v1 vl b0 b1 fs w' := by
  have hS : ∀ b, Fr gp vl wr b → Fr gp vl w' b := fun b hb => ⟨hb.1, Nat.lt_of_lt_of_le hb.2.1 hs, hb.2.2⟩
  have hk : ∀ b, Fr gp vl wr b → w'.heap[b]? = wr.heap[b]? := fun b hq => hb b (Nat.le_of_lt hq.1) hq.2.1
  refine ⟨hold, Nat.lt_of_lt_of_le h.lt hs, (hb gp (Nat.le_refl _) h.lt).trans h.row, (h.f0.keep hk).mono hS, (h.f1.keep hk).mono hS, ⟨h.own.1, ?_⟩, fun f hf => ((h.ft f hf).keep hk).mono hS⟩
  rcases h.own.2 with h0 | ⟨g, cap, cur, rfl, h1, hg, hr⟩
  · exact .inl h0
  · exact .inr ⟨g, cap, cur, rfl, h1, (hb g (by omega) (Array.getElem?_eq_some_iff.1 hg).1).trans hg, hr⟩
theorem PS.below (h : PS gp w0 nm v0 v1 vl b0 b1 fs wr) (hb : Below wr.heap.size wr w') : PS gp w0 nm v0 v1 vl b0 b1 fs w' :=
  h.keeps (fun b _ hl => hb.block b hl) hb.size (h.old.trans (hb.mono (Nat.le_of_lt h.lt)))
theorem PS.kb (h : PS gp w0 nm v0 v1 vl b0 b1 fs wr) (hb : Below wr.heap.size wr w') : Kp gp vl wr vl w' := fun b hq => ⟨⟨hq.1, Nat.lt_of_lt_of_le hq.2.1 hb.size, hq.2.2⟩, hb.block b hq.2.1⟩
theorem PS.newS (h : PS gp w0 nm v0 v1 vl b0 b1 fs wr) {v : Value} {L : List ByteArray} {q : Nat} (hq : wr.heap.size ≤ q) (hf : FtS (fun k => q ≤ k ∧ k < w'.heap.size) w' v L) : FtS (Fr gp vl w') w' v L :=
  hf.mono fun b hb => ⟨by have := h.lt; omega, hb.2, fun e => by have := (h.own.lt b e.symm).2; omega⟩
/-- new memory lies in blocks that are free -/
theorem PS.new (h : PS gp w0 nm v0 v1 vl b0 b1 fs wr) (hs : wr.heap.size ≤ w'.heap.size) {v : Value} {C : List Int} {q : Nat} (hq : wr.heap.size ≤ q) (hf : FtN (fun k => q ≤ k ∧ k < w'.heap.size) w' v C) : FtN (Fr gp vl w') w' v C :=
  hf.mono fun b hb => ⟨by have := h.lt; omega, hb.2, fun e => by have := (h.own.lt b e.symm).2; omega⟩
/-- a cell of the box is set -/
theorem ps_set (h : PS gp w0 nm v0 v1 vl b0 b1 fs wr) (j : Nat) (u : Value) : Below gp w0 (wr.setCell ⟨gp, j, none⟩ u) ∧ (wr.setCell ⟨gp, j, none⟩ u).heap.size = wr.heap.size ∧ ∀ b, b ≠ gp → (wr.setCell ⟨gp, j, none⟩ u).heap[b]? = wr.heap[b]? := by
  have hb := (But.refl (fun k => k = gp) wr).setCell (p := ⟨gp, j, none⟩) rfl u
  have ho : ∀ b, b ≠ gp → (wr.setCell ⟨gp, j, none⟩ u).heap[b]? = wr.heap[b]? := fun b hne => heap_setCell_other _ _ _ _ hne
  refine ⟨⟨hb.os.trans h.old.os, hb.tape.trans h.old.tape, hb.output.trans h.old.output, Nat.le_trans h.old.size (Nat.le_of_eq hb.size.symm), fun k hk => ?_⟩, hb.size, ho⟩
  rw [ho k (by omega)]; exact h.old.block k hk
theorem ps_box {w1 : World} {u0 u1 : Value} {d0 d1 : List Int} (h : PS gp w0 nm v0 v1 vl b0 b1 fs wr) (hold : Below gp w0 w1) (hsz : w1.heap.size = wr.heap.size) (ho : ∀ b, b ≠ gp → w1.heap[b]? = wr.heap[b]?)
    (hrow : w1.heap[gp]? = some (.cells #[.string nm, u0, u1, vl] 26)) (g0 : FtN (Fr gp vl wr) wr u0 d0) (g1 : FtN (Fr gp vl wr) wr u1 d1) : PS gp w0 nm u0 u1 vl d0 d1 fs w1 := by
  have hS : ∀ b, Fr gp vl wr b → Fr gp vl w1 b := fun b hb => ⟨hb.1, by rw [hsz]; exact hb.2.1, hb.2.2⟩
  have hk : ∀ b, Fr gp vl wr b → w1.heap[b]? = wr.heap[b]? := fun b hq => ho b (by have := hq.1; omega)
  refine ⟨hold, by rw [hsz]; exact h.lt, hrow, (g0.keep hk).mono hS, (g1.keep hk).mono hS, ⟨h.own.1, ?_⟩, fun f hf => ((h.ft f hf).keep hk).mono hS⟩
  rcases h.own.2 with h0 | ⟨g, cap, cur, e, h1, hg, hr⟩
  · exact .inl h0
  · exact .inr ⟨g, cap, cur, e, h1, (ho g (by omega)).trans hg, hr⟩
theorem PS.set1 (h : PS gp w0 nm v0 v1 vl b0 b1 fs wr) {u : Value} {C : List Int} (hf : FtN (Fr gp vl wr) wr u C) : PS gp w0 nm u v1 vl C b1 fs (wr.setCell ⟨gp, 1, none⟩ u) := by
  obtain ⟨h1, h2, h3⟩ := ps_set h 1 u
  exact ps_box h h1 h2 h3 (by rw [heap_setCell_same _ _ _ _ _ _ h.row]; rfl) hf h.f1
theorem PS.set2 (h : PS gp w0 nm v0 v1 vl b0 b1 fs wr) {u : Value} {C : List Int} (hf : FtN (Fr gp vl wr) wr u C) : PS gp w0 nm v0 u vl b0 C fs (wr.setCell ⟨gp, 2, none⟩ u) := by
  obtain ⟨h1, h2, h3⟩ := ps_set h 2 u
  exact ps_box h h1 h2 h3 (by rw [heap_setCell_same _ _ _ _ _ _ h.row]; rfl) h.f0 hf
theorem parts_line : (Tryd.prog.info? 43).map (fun i => (i.zero, i.size, i.bytes)) = some (some (.agg #[.int .i64 0, .slice none 0 0]), 2, 32) := by kernel_rfl
/-- a line is appended; the box has the elder list still -/
structure PT (gp : Nat) (w0 : World) (nm : ByteArray) (v0 v1 vl vn : Value) (b0 b1 : List Int) (fs : List Lv) (wr : World) : Prop where
  old : Below gp w0 wr
  lt : gp < wr.heap.size
  row : wr.heap[gp]? = some (.cells #[.string nm, v0, v1, vl] 26)
  f0 : FtN (Fr gp vn wr) wr v0 b0
  f1 : FtN (Fr gp vn wr) wr v1 b1
  own : wr.ownsRow (gp + 1) 43 2 vn fs.length (lvc fs)
  ft : ∀ f ∈ fs, FtN (Fr gp vn wr) wr f.2.1 f.2.2
theorem PS.app (h : PS gp w0 nm v0 v1 vl b0 b1 fs wr) (hn : fs.length ≤ 1000000) {a : Nat} {f : Int} {u : Value} {C : List Int} (hf : FtN (Fr gp vl wr) wr u C) (hc : wr.heap[a]? = some (.cells #[.int .i64 f, u] 43)) :
    ∀ ty, ∃ v' w', (Builtin.append_ #[24, 24] ty #[vl, .slice (some ⟨a, 0, none⟩) 1 1]).run Tryd.prog wr = .ok v' w' ∧ (PT gp w0 nm v0 v1 vl v' b0 b1 (fs ++ [(f, u, C)]) w' ∧ Kp gp vl wr v' w') := fun ty => by
  obtain ⟨v', w', hr, h2, h3, h4⟩ := own_app Tryd.underlying24 parts_line rfl (by decide) h.own (news := [.int .i64 f, u]) hc rfl (fun x hx => by simp at hx; rcases hx with rfl | rfl; rfl; exact hf.one) (by omega) (by omega) h.lt ty
  have hS : ∀ b, Fr gp vl wr b → Fr gp v' w' b := fun b hb => ⟨hb.1, Nat.lt_of_lt_of_le hb.2.1 h3.size, fun e => by
    rcases h4 with h4 | h4
    · rw [h4] at e; exact hb.2.2 e
    · rw [h4] at e; injection e with e; have := hb.2.1; omega⟩
  have hk : ∀ b, Fr gp vl wr b → w'.heap[b]? = wr.heap[b]? := fun b hb => h3.block b hb.2.1 hb.2.2
  have hgp : some gp ≠ vl.ownBlock := fun e => by have := (h.own.lt gp e.symm).1; omega
  refine ⟨v', w', hr, ⟨?_, Nat.lt_of_lt_of_le h.lt h3.size, (h3.block gp h.lt hgp).trans h.row, (h.f0.keep hk).mono hS, (h.f1.keep hk).mono hS, ?_, fun g hg => ?_⟩, fun b hb => ⟨hS b hb, hk b hb⟩⟩
  · exact h.old.grown h3 (Nat.le_of_lt h.lt) (fun k hk => by have := (h.own.lt k hk).1; omega)
  · rw [lvc_snoc, List.length_append]; exact h2
  · rcases List.mem_append.1 hg with hg | hg
    · exact ((h.ft g hg).keep hk).mono hS
    · obtain rfl : g = (f, u, C) := by simpa using hg
      exact (hf.keep hk).mono hS
theorem PT.c3 {vn : Value} (h : PT gp w0 nm v0 v1 vl vn b0 b1 fs wr) : wr.cell? ⟨gp, 3, none⟩ = some vl := by rw [cell_of_row _ _ _ _ _ _ h.row]; rfl
theorem PT.fz {vn : Value} (h : PT gp w0 nm v0 v1 vl vn b0 b1 fs wr) (j : Nat) : wr.frozen? ⟨gp, j, none⟩ = false := frozen_of_row _ _ _ _ _ h.row
/-- the box takes the new list -/
theorem PT.set {vn : Value} (h : PT gp w0 nm v0 v1 vl vn b0 b1 fs wr) : PS gp w0 nm v0 v1 vn b0 b1 fs (wr.setCell ⟨gp, 3, none⟩ vn) := by
  have hb := (But.refl (fun k => k = gp) wr).setCell (p := ⟨gp, 3, none⟩) rfl vn
  have ho : ∀ b, b ≠ gp → (wr.setCell ⟨gp, 3, none⟩ vn).heap[b]? = wr.heap[b]? := fun b hne => heap_setCell_other _ _ _ _ hne
  have hS : ∀ b, Fr gp vn wr b → Fr gp vn (wr.setCell ⟨gp, 3, none⟩ vn) b := fun b hq => ⟨hq.1, by rw [hb.size]; exact hq.2.1, hq.2.2⟩
  have hk : ∀ b, Fr gp vn wr b → (wr.setCell ⟨gp, 3, none⟩ vn).heap[b]? = wr.heap[b]? := fun b hq => ho b (by have := hq.1; omega)
  refine ⟨⟨hb.os.trans h.old.os, hb.tape.trans h.old.tape, hb.output.trans h.old.output, Nat.le_trans h.old.size (Nat.le_of_eq hb.size.symm), fun k hk => ?_⟩, by rw [hb.size]; exact h.lt, by rw [heap_setCell_same _ _ _ _ _ _ h.row]; rfl, (h.f0.keep hk).mono hS, (h.f1.keep hk).mono hS, ⟨h.own.1, ?_⟩, fun f hf => ((h.ft f hf).keep hk).mono hS⟩
  · rw [ho k (by omega)]; exact h.old.block k hk
  · rcases h.own.2 with h0 | ⟨g, cap, cur, e, h1, hg, hr⟩
    · exact .inl h0
    · exact .inr ⟨g, cap, cur, e, h1, (ho g (by omega)).trans hg, hr⟩
theorem PT.kp {vn : Value} (h : PT gp w0 nm v0 v1 vl vn b0 b1 fs wr) : Kp gp vn wr vn (wr.setCell ⟨gp, 3, none⟩ vn) := fun b hq => by
  have hb := (But.refl (fun k => k = gp) wr).setCell (p := ⟨gp, 3, none⟩) rfl vn
  exact ⟨⟨hq.1, by rw [hb.size]; exact hq.2.1, hq.2.2⟩, heap_setCell_other _ _ _ _ (by have := hq.1; show b ≠ gp; omega)⟩
/-- it is the pattern that it says -/
theorem PS.rd (h : PS gp w0 nm v0 v1 vl b0 b1 fs wr) (hn : fs.length ≤ 140737488355328) : RdP wr (.agg #[.string nm, v0, v1, vl]) ⟨nm, b0, b1, lvl fs⟩ := by
  refine ⟨v0, v1, vl, rfl, h.f0.rd, h.f1.rd, ?_⟩
  have hl : (lvl fs).length = fs.length := by simp [lvl]
  rcases h.own.2 with ⟨e, e2⟩ | ⟨g, cap', cur, e, hb, hg, h1, h2, h3, h4⟩
  · subst e
    exact ⟨none, 0, by rw [hl, e2], by rw [hl, e2]; exact Nat.le_refl _, by rw [hl]; exact hn, fun j hj => by rw [hl, e2] at hj; omega⟩
  · subst e
    refine ⟨some ⟨g, 0, none⟩, cap', by rw [hl], by rw [hl]; exact h1, by rw [hl]; exact hn, fun j hj => ?_⟩
    rw [hl] at hj
    obtain ⟨a1, a2⟩ := lvc_at fs j hj
    obtain ⟨g', e1, _, k1⟩ := (own_cell h.own).2 _ _ a1
    obtain ⟨g'', e2, _, k2⟩ := (own_cell h.own).2 _ _ a2
    injection e1 with e1
    injection e1 with e1
    injection e2 with e2
    injection e2 with e2
    subst e1 e2
    have hgd : (lvl fs).getD j (0, []) = ((fs.getD j (0, undef, [])).1, (fs.getD j (0, undef, [])).2.2) := by simp [lvl, List.getD, hj]
    have hm : fs.getD j (0, undef, []) ∈ fs := by simp [List.getD, hj]
    rw [hgd]
    exact ⟨g, 0, _, rfl, by rw [Nat.zero_add]; exact k1, by rw [Nat.zero_add]; exact k2, (h.ft _ hm).rd⟩
/-- a new box with a name alone -/
theorem ps_start (W : World) (nm : ByteArray) : PS W.heap.size W nm (.slice none 0 0) (.slice none 0 0) (.slice none 0 0) [] [] [] (W.alloc (.cells #[.string nm, .slice none 0 0, .slice none 0 0, .slice none 0 0] 26)) :=
  ⟨(Below.refl _ _).alloc (Nat.le_refl _) _, by simp [size_alloc], heap_alloc_new _ _, ft_nil _ _, ft_nil _ _, own_nil0 _ _ _ _, fun f hf => by simp at hf⟩
end
end Go.Proofs.YtjhleocpipmklaaDoor
