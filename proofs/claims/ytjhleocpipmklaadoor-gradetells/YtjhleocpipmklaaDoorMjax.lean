import Derived.Shelf.Strings.Builder1
import Derived.Shelf.Strings.Builder2
import Derived.Shelf.Strings.OnBuilder
import Derived.Shelf.Small.Bits
import Derived.Shelf.Small.Wraps
import Derived.Shelf.Strconv.Itoa0
import Derived.Shelf.LaysM
import Derived.Shelf.Strconv.Clone
import Derived.Shelf.Sort.Plain
import Derived.Shelf.Strings.Prefix
import Derived.Shelf.Slices.Reverse
import Derived.Ground.Names2Prog
import Derived.Shelf.Slices.Clone
import Derived.Shelf.Slices.SearchI
import Derived.Shelf.Slices.Cells
import Derived.Shelf.Slices.In.SortNone
import Derived.Ground.SlgnProg
import Derived.Shelf.SlicesE.Clone
import Derived.Test.YtjhleocpipmklaaDoorProg
import Derived.Test.YtjhleocpipmklaaDoorMjaw
import Derived.Test.YtjhleocpipmklaaDoorMjag
import Derived.Test.YtjhleocpipmklaaDoorMjal
/- contracts of Go's library, laid at this program -/
namespace Go.Proofs
set_option linter.unusedVariables false
open Go.Shelf Go.RowKit Go.Lib Go.Sort
def Tryd.lays156_ren : Go.Shelf.Ren := ⟨fun | 156 => 42 | 165 => 66 | 166 => 67 | 169 => 68 | 240 => 79 | 241 => 80 | 276 => 96 | 277 => 97 | n => n, fun | 31 => 74 | 9 => 9 | 3 => 3 | 4 => 4 | 0 => 0 | 20 => 20 | 72 => 114 | 76 => 116 | 70 => 111 | 37 => 112 | 75 => 32 | 127 => 133 | 164 => 149 | 5 => 5 | 80 => 118 | n => n, fun | n => n⟩
theorem Tryd.lays156 : Go.Proofs.Lays.n156 Tryd.prog Tryd.lays156_ren := {
  mixed := by kernel_rfl
  f156 := Tryd.func42.trans (congrArg some (by kernel_rfl))
  f165 := Tryd.func66.trans (congrArg some (by kernel_rfl))
  f166 := Tryd.func67.trans (congrArg some (by kernel_rfl))
  f169 := Tryd.func68.trans (congrArg some (by kernel_rfl))
  f240 := Tryd.func79.trans (congrArg some (by kernel_rfl))
  f241 := Tryd.func80.trans (congrArg some (by kernel_rfl))
  f276 := Tryd.func96.trans (congrArg some (by kernel_rfl))
  f277 := Tryd.func97.trans (congrArg some (by kernel_rfl))
  t0 := Tryd.underlying0
  a0 := Tryd.isAgg0
  z0 := Tryd.sizeOf0
  v0 := Tryd.zeroValue0
  t3 := Tryd.underlying3
  a3 := Tryd.isAgg3
  z3 := Tryd.sizeOf3
  v3 := Tryd.zeroValue3
  t4 := Tryd.underlying4
  a4 := Tryd.isAgg4
  z4 := Tryd.sizeOf4
  v4 := Tryd.zeroValue4
  t9 := Tryd.underlying9
  a9 := Tryd.isAgg9
  z9 := Tryd.sizeOf9
  v9 := Tryd.zeroValue9
  t20 := Tryd.underlying20
  a20 := Tryd.isAgg20
  z20 := Tryd.sizeOf20
  v20 := Tryd.zeroValue20
  t31 := Tryd.underlying74
  a31 := Tryd.isAgg74
  z31 := Tryd.sizeOf74
  v31 := Tryd.zeroValue74
  t37 := Tryd.underlying112
  a37 := Tryd.isAgg112
  z37 := Tryd.sizeOf112
  v37 := Tryd.zeroValue112
  t70 := Tryd.underlying111
  a70 := Tryd.isAgg111
  z70 := Tryd.sizeOf111
  v70 := Tryd.zeroValue111
  t72 := Tryd.underlying114
  a72 := Tryd.isAgg114
  z72 := Tryd.sizeOf114
  v72 := Tryd.zeroValue114
  t75 := Tryd.underlying32
  a75 := Tryd.isAgg32
  z75 := Tryd.sizeOf32
  v75 := Tryd.zeroValue32
  t76 := Tryd.underlying116
  a76 := Tryd.isAgg116
  z76 := Tryd.sizeOf116
  v76 := Tryd.zeroValue116
  t127 := Tryd.underlying133
  a127 := Tryd.isAgg133
  z127 := Tryd.sizeOf133
  v127 := Tryd.zeroValue133
  t164 := Tryd.underlying149
  a164 := Tryd.isAgg149
  z164 := Tryd.sizeOf149
  v164 := Tryd.zeroValue149 }
theorem Tryd.Builder_Extra_156 : Builder.Extra Tryd.prog Tryd.lays156_ren := {
  sizeBuilder := by kernel_rfl
  liesBuilder := by kernel_rfl
  t5 := Tryd.underlying5
  a5 := Tryd.isAgg5
  z5 := Tryd.sizeOf5
  v5 := Tryd.zeroValue5
  infoByte := by kernel_rfl
  cellsByte := by kernel_rfl
  sizeByte := by kernel_rfl
  neB5 := by decide }
theorem Tryd.strings_Join_none (a : Option Addr) (c : Nat) (sep : ByteArray) (w : World) :
    Calls Tryd.prog 42 #[.slice a 0 c, .string sep] w fun e w' => e = .returned (.string ⟨#[]⟩) ∧ w' = w := Any.strings_Join_none Tryd.lays156 Tryd.Builder_Extra_156 a c sep w
theorem Tryd.strings_Join (bk o c : Nat) (xs : List ByteArray) (sep : ByteArray) (w : World) (hcells : ∀ (j : Nat) x, xs[j]? = some x → w.cell? ⟨bk, o + j, none⟩ = some (.string x)) (hbk : bk < w.heap.size) (hN : xs.length ≤ 140737488355328) (hcap : xs.length ≤ c) (hlen : (Lib.join (xs.map (·.data.toList)) sep.data.toList).length ≤ 140737488355328) :
    Calls Tryd.prog 42 #[.slice (some ⟨bk, o, none⟩) xs.length c, .string sep] w fun e w' => e = .returned (.string ⟨(Lib.join (xs.map (·.data.toList)) sep.data.toList).toArray⟩) ∧ Below w.heap.size w w' := Any.strings_Join Tryd.lays156 Tryd.Builder_Extra_156 bk o c xs sep w hcells hbk hN hcap hlen
def Tryd.lays103_ren : Go.Shelf.Ren := ⟨fun | 103 => 76 | 210 => 94 | 206 => 110 | n => n, fun | 9 => 9 | 4 => 4 | 24 => 130 | 3 => 3 | n => n, fun | n => n⟩
theorem Tryd.lays103 : Go.Proofs.Lays.n103 Tryd.prog Tryd.lays103_ren := {
  mixed := by kernel_rfl
  f103 := Tryd.func76.trans (congrArg some (by kernel_rfl))
  f206 := Tryd.func110.trans (congrArg some (by kernel_rfl))
  f210 := Tryd.func94.trans (congrArg some (by kernel_rfl))
  t3 := Tryd.underlying3
  a3 := Tryd.isAgg3
  z3 := Tryd.sizeOf3
  v3 := Tryd.zeroValue3
  t4 := Tryd.underlying4
  a4 := Tryd.isAgg4
  z4 := Tryd.sizeOf4
  v4 := Tryd.zeroValue4
  t9 := Tryd.underlying9
  a9 := Tryd.isAgg9
  z9 := Tryd.sizeOf9
  v9 := Tryd.zeroValue9
  t24 := Tryd.underlying130
  a24 := Tryd.isAgg130
  z24 := Tryd.sizeOf130
  v24 := Tryd.zeroValue130 }
theorem Tryd.strings_CutPrefix (s p : ByteArray) (w : World) :
    Calls Tryd.prog 76 #[.string s, .string p] w fun e w' => e = .returned (.tuple #[.string ⟨(Lib.trimPrefix s.data.toList p.data.toList).toArray⟩, .bool (Lib.hasPrefix s.data.toList p.data.toList)]) ∧ w' = w := Any.strings_CutPrefix Tryd.lays103 s p w
def Tryd.laysM316_ren : Go.Shelf.Ren := ⟨fun | 316 => 65 | n => n, fun | 9 => 9 | 3 => 3 | 4 => 4 | 37 => 112 | 0 => 0 | 127 => 133 | 5 => 5 | n => n, fun | n => n⟩
theorem Tryd.laysM316 : Go.Proofs.LaysM.n316 Tryd.prog Tryd.laysM316_ren := {
  mixed := by kernel_rfl
  f316 := Tryd.func65.trans (congrArg some (by kernel_rfl))
  t0 := Tryd.underlying0
  a0 := Tryd.isAgg0
  z0 := Tryd.sizeOf0
  v0 := Tryd.zeroValue0
  t3 := Tryd.underlying3
  a3 := Tryd.isAgg3
  z3 := Tryd.sizeOf3
  v3 := Tryd.zeroValue3
  t4 := Tryd.underlying4
  a4 := Tryd.isAgg4
  z4 := Tryd.sizeOf4
  v4 := Tryd.zeroValue4
  t9 := Tryd.underlying9
  a9 := Tryd.isAgg9
  z9 := Tryd.sizeOf9
  v9 := Tryd.zeroValue9
  t37 := Tryd.underlying112
  a37 := Tryd.isAgg112
  z37 := Tryd.sizeOf112
  v37 := Tryd.zeroValue112
  t127 := Tryd.underlying133
  a127 := Tryd.isAgg133
  z127 := Tryd.sizeOf133
  v127 := Tryd.zeroValue133
  t5 := Tryd.underlying5
  a5 := Tryd.isAgg5
  z5 := Tryd.sizeOf5
  v5 := Tryd.zeroValue5
  i0 := by kernel_rfl
  i3 := by kernel_rfl
  i4 := by kernel_rfl
  i5 := by kernel_rfl
  i9 := by kernel_rfl
  i37 := by kernel_rfl
  i127 := by kernel_rfl }
theorem Tryd.stringslite_Clone (s : ByteArray) (w : World) (hlim : s.size ≤ 281474976710656) :
    Calls Tryd.prog 65 #[.string s] w fun e w' => e = .returned (.string s) ∧ Below w.heap.size w w' := Any.stringslite_Clone Tryd.laysM316 s w hlim
def Tryd.laysNm215_ren : Go.Shelf.Ren := ⟨fun | 15 => 59 | n => n, fun | 22 => 22 | 3 => 3 | 4 => 4 | n => n, fun | n => n⟩
theorem Tryd.laysNm215 : Go.Proofs.Lays2.n15 Tryd.prog Tryd.laysNm215_ren := {
  mixed := by kernel_rfl
  f15 := Tryd.func59.trans (congrArg some (by kernel_rfl))
  t3 := Tryd.underlying3
  a3 := Tryd.isAgg3
  z3 := Tryd.sizeOf3
  v3 := Tryd.zeroValue3
  t4 := Tryd.underlying4
  a4 := Tryd.isAgg4
  z4 := Tryd.sizeOf4
  v4 := Tryd.zeroValue4
  t22 := Tryd.underlying22
  a22 := Tryd.isAgg22
  z22 := Tryd.sizeOf22
  v22 := Tryd.zeroValue22
  i3 := by kernel_rfl }
theorem Tryd.slices_Clone_int (b off n c : Nat) (zs : List Int) (w : World) (hz : n ≤ zs.length) (hbig : n * 8 ≤ 140737488355328) (hc : ∀ j, j < zs.length → w.cell? ⟨b, off + j, none⟩ = some (.int .i64 (zs.getD j 0))) :
    Calls Tryd.prog 59 #[.slice (some ⟨b, off, none⟩) n c] w fun e w' => ∃ v', e = .returned v' ∧ w'.ownsRow w.heap.size 3 1 v' n ((zs.take n).map (Value.int .i64)) ∧ v' ≠ .slice none 0 0 ∧ Below w.heap.size w w' := Any.slices_Clone_int Tryd.laysNm215 b off n c zs w hz hbig hc
theorem Tryd.slices_Clone_int_nil (n c : Nat) (w : World) :
    Calls Tryd.prog 59 #[.slice none n c] w fun e w' => e = .returned (.slice none 0 0) ∧ w' = w := Any.slices_Clone_int_nil Tryd.laysNm215 n c w
theorem Tryd.slices_Clone_int_zero (a : Addr) (c : Nat) (w : World) :
    Calls Tryd.prog 59 #[.slice (some a) 0 c] w fun e w' => ∃ v', e = .returned v' ∧ w'.ownsRow w.heap.size 3 1 v' 0 [] ∧ v' ≠ .slice none 0 0 ∧ Below w.heap.size w w' := Any.slices_Clone_int_zero Tryd.laysNm215 a c w
def Tryd.lays189_ren : Go.Shelf.Ren := ⟨fun | 189 => 62 | 125 => 75 | 257 => 74 | 128 => 92 | 129 => 93 | 294 => 83 | 295 => 84 | 296 => 85 | 297 => 86 | 298 => 87 | 299 => 88 | 216 => 89 | 300 => 90 | 301 => 91 | 328 => 104 | 329 => 105 | 330 => 106 | 331 => 107 | 332 => 108 | 215 => 109 | 343 => 114 | n => n, fun | 28 => 22 | 3 => 3 | 46 => 129 | 0 => 0 | 51 => 146 | 53 => 148 | 4 => 4 | 183 => 139 | 182 => 138 | 131 => 78 | 5 => 5 | 9 => 9 | 218 => 158 | 222 => 162 | 228 => 168 | 229 => 169 | n => n, fun | n => n⟩
theorem Tryd.lays189 : Go.Proofs.Lays.n189 Tryd.prog Tryd.lays189_ren := {
  mixed := by kernel_rfl
  f125 := Tryd.func75.trans (congrArg some (by kernel_rfl))
  f128 := Tryd.func92.trans (congrArg some (by kernel_rfl))
  f129 := Tryd.func93.trans (congrArg some (by kernel_rfl))
  f189 := Tryd.func62.trans (congrArg some (by kernel_rfl))
  f215 := Tryd.func109.trans (congrArg some (by kernel_rfl))
  f216 := Tryd.func89.trans (congrArg some (by kernel_rfl))
  f257 := Tryd.func74.trans (congrArg some (by kernel_rfl))
  f294 := Tryd.func83.trans (congrArg some (by kernel_rfl))
  f295 := Tryd.func84.trans (congrArg some (by kernel_rfl))
  f296 := Tryd.func85.trans (congrArg some (by kernel_rfl))
  f297 := Tryd.func86.trans (congrArg some (by kernel_rfl))
  f298 := Tryd.func87.trans (congrArg some (by kernel_rfl))
  f299 := Tryd.func88.trans (congrArg some (by kernel_rfl))
  f300 := Tryd.func90.trans (congrArg some (by kernel_rfl))
  f301 := Tryd.func91.trans (congrArg some (by kernel_rfl))
  f328 := Tryd.func104.trans (congrArg some (by kernel_rfl))
  f329 := Tryd.func105.trans (congrArg some (by kernel_rfl))
  f330 := Tryd.func106.trans (congrArg some (by kernel_rfl))
  f331 := Tryd.func107.trans (congrArg some (by kernel_rfl))
  f332 := Tryd.func108.trans (congrArg some (by kernel_rfl))
  f343 := Tryd.func114.trans (congrArg some (by kernel_rfl))
  t0 := Tryd.underlying0
  a0 := Tryd.isAgg0
  z0 := Tryd.sizeOf0
  v0 := Tryd.zeroValue0
  t3 := Tryd.underlying3
  a3 := Tryd.isAgg3
  z3 := Tryd.sizeOf3
  v3 := Tryd.zeroValue3
  t4 := Tryd.underlying4
  a4 := Tryd.isAgg4
  z4 := Tryd.sizeOf4
  v4 := Tryd.zeroValue4
  t5 := Tryd.underlying5
  a5 := Tryd.isAgg5
  z5 := Tryd.sizeOf5
  v5 := Tryd.zeroValue5
  t9 := Tryd.underlying9
  a9 := Tryd.isAgg9
  z9 := Tryd.sizeOf9
  v9 := Tryd.zeroValue9
  t28 := Tryd.underlying22
  a28 := Tryd.isAgg22
  z28 := Tryd.sizeOf22
  v28 := Tryd.zeroValue22
  t46 := Tryd.underlying129
  a46 := Tryd.isAgg129
  z46 := Tryd.sizeOf129
  v46 := Tryd.zeroValue129
  t51 := Tryd.underlying146
  a51 := Tryd.isAgg146
  z51 := Tryd.sizeOf146
  v51 := Tryd.zeroValue146
  t53 := Tryd.underlying148
  a53 := Tryd.isAgg148
  z53 := Tryd.sizeOf148
  v53 := Tryd.zeroValue148
  t131 := Tryd.underlying78
  a131 := Tryd.isAgg78
  z131 := Tryd.sizeOf78
  v131 := Tryd.zeroValue78
  t182 := Tryd.underlying138
  a182 := Tryd.isAgg138
  z182 := Tryd.sizeOf138
  v182 := Tryd.zeroValue138
  t183 := Tryd.underlying139
  a183 := Tryd.isAgg139
  z183 := Tryd.sizeOf139
  v183 := Tryd.zeroValue139
  t218 := Tryd.underlying158
  a218 := Tryd.isAgg158
  z218 := Tryd.sizeOf158
  v218 := Tryd.zeroValue158
  t222 := Tryd.underlying162
  a222 := Tryd.isAgg162
  z222 := Tryd.sizeOf162
  v222 := Tryd.zeroValue162
  t228 := Tryd.underlying168
  a228 := Tryd.isAgg168
  z228 := Tryd.sizeOf168
  v228 := Tryd.zeroValue168
  t229 := Tryd.underlying169
  a229 := Tryd.isAgg169
  z229 := Tryd.sizeOf169
  v229 := Tryd.zeroValue169 }
theorem Tryd.slices_Sort_int (blk off cap : Nat) (zs : List Int) (w : World) (hH : Holds (Value.int .i64) w blk off zs.toArray) (hblk : blk < w.heap.size) (hsz : zs.length < 4611686018427387904) :
    Calls Tryd.prog 62 #[.slice (some ⟨blk, off, none⟩) zs.length cap] w fun e w' =>
      e = .returned (.tuple #[]) ∧ ∃ n os, w' = grow (putRow (Value.int .i64) (Sort.ahead w n) blk off (zs.mergeSort fun x y => decide (x ≤ y)).toArray) os := Any.slices_Sort_int Tryd.lays189 blk off cap zs w hH hblk hsz
theorem Tryd.slices_Sort_int_none (p : Option Addr) (cap : Nat) (w : World) :
    Calls Tryd.prog 62 #[.slice p 0 cap] w fun e w' => e = .returned (.tuple #[]) ∧ w' = w := Any.slices_Sort_int_none Tryd.lays189 p cap w
end Go.Proofs
namespace Go.Proofs.YtjhleocpipmklaaDoor
set_option linter.unusedSimpArgs false
set_option linter.unusedVariables false
set_option maxRecDepth 100000
open Go.ChangeShapes Go.WideShapes Go.ChangeAt Go.RowKit Go.Pin Go.Pat Go.Deep
/-- a builder that holds these bytes -/
def BD (B b : Nat) (l : List UInt8) (w : World) : Prop := Lib.IsBuilder 114 5 B b (Lib.byteCells l) w
theorem bd_new (w : World) : BD w.heap.size w.heap.size [] (w.alloc (.cells #[.pointer none, .slice none 0 0] 114)) := Lib.fresh_isBuilder _ _ w
theorem bwrite_any (B b : Nat) (l : List UInt8) (s : ByteArray) (w : World) (h : BD B b l w) (hl : l.length + s.size ≤ 140737488355328) (hB : B ≤ w.heap.size) :
    Calls Tryd.prog 67 #[.pointer (some ⟨b, 0, none⟩), .string s] w fun e w' => e = .returned (.tuple #[.int .i64 s.size, .nilIface]) ∧ BD B b (l ++ toL s) w' ∧ Below B w w' := by
  have hc : ∀ (a c : List UInt8), Lib.byteCells (a ++ c) = Lib.byteCells a ++ Lib.byteCells c := fun a c => by simp [Lib.byteCells]
  refine (Any.Builder_WriteString (ρ := Tryd.lays156_ren) { Tryd.lays156 with } Tryd.Builder_Extra_156 B b (Lib.byteCells l) s w h (by simpa [Lib.byteCells] using hl) hB).mono ?_
  rintro e w' ⟨rfl, h1, h2⟩
  refine ⟨rfl, .inr ?_, h2⟩
  rw [hc]
  exact h1
theorem bstring_any (B b : Nat) (l : List UInt8) (w : World) (h : BD B b l w) (hB : B ≤ w.heap.size) :
    Calls Tryd.prog 68 #[.pointer (some ⟨b, 0, none⟩)] w fun e w' => e = .returned (.string ⟨l.toArray⟩) ∧ Below B w w' :=
  Any.Builder_String_any (ρ := Tryd.lays156_ren) { Tryd.lays156 with } Tryd.Builder_Extra_156 B b l w h hB
theorem head_at {w : World} (h : Tabs w) (s : Nat) (hs : s < 2) : w.cell? ⟨9, s, none⟩ = some (.string (hdr s)) := by
  have := h.heads s (.string (hdr s)) (by rcases (by omega : s = 0 ∨ s = 1) with rfl | rfl <;> rfl)
  rw [Nat.zero_add] at this
  exact this
theorem word_at {w : World} (h : Tabs w) (k : Nat) (hk : k ≤ 7) : w.cell? ⟨10, k, none⟩ = some (.string (wrd k)) := by
  have := h.tokenWords k (.string (wrd k)) (by rcases (by omega : k = 0 ∨ k = 1 ∨ k = 2 ∨ k = 3 ∨ k = 4 ∨ k = 5 ∨ k = 6 ∨ k = 7) with rfl | rfl | rfl | rfl | rfl | rfl | rfl | rfl <;> rfl)
  rw [Nat.zero_add] at this
  exact this
end Go.Proofs.YtjhleocpipmklaaDoor
namespace Go.Proofs.YtjhleocpipmklaaDoor
set_option linter.unusedSimpArgs false
set_option linter.unusedVariables false
set_option maxRecDepth 100000
open Go.ChangeShapes Go.WideShapes Go.ChangeAt Go.RowKit Go.Pin Go.Pat Go.Deep
def wr1 (l : List UInt8) (s : Int) (ts : List Int) : List UInt8 := if ts.length = 0 then l else l ++ toL (row s ts)
/-- what is written behind the name, ahead of the messages -/
def wrB (p : Pt) : Nat → List UInt8
  | 0 => [58, 10]
  | 1 => wr1 [58, 10] 0 p.b0
  | _ => wr1 (wr1 [58, 10] 0 p.b0) 1 p.b1
def wrD (p : Pt) : List UInt8 := if 0 < p.b0.length + p.b1.length then wrB p 2 ++ [32, 32, 46, 46, 46, 10] else wrB p 2
def wrN (p : Pt) : Nat → List UInt8
  | 0 => wrD p
  | i + 1 => wrN p i ++ toL (row (p.ln.getD i (0, [])).1 (p.ln.getD i (0, [])).2)
def wrt (p : Pt) : List UInt8 := wrN p p.ln.length
theorem bef_wr1 (s : ByteArray) (l a : List UInt8) (h : toL s = a ++ l) (side : Int) (ts : List Int) : toL (bef s side ts) = a ++ wr1 l side ts := by
  unfold bef wr1
  split
  · exact h
  · rw [toL_app, h, List.append_assoc]
theorem txt_wrt (p : Pt) : toL (txt p) = toL p.nm ++ wrt p := by
  have h0 : toL (txH p) = toL p.nm ++ wrD p := by
    have e := bef_wr1 _ _ _ (bef_wr1 (p.nm ++ ⟨#[58, 10]⟩) [58, 10] (toL p.nm) (toL_app _ _) 0 p.b0) 1 p.b1
    unfold txH dots wrD
    split
    · rw [toL_app, e, List.append_assoc]
      rfl
    · exact e
  have hN : ∀ i, toL (txN p i) = toL p.nm ++ wrN p i := fun i => by
    induction i with
    | zero => exact h0
    | succ i ih => rw [txN, wrN, toL_app, ih, List.append_assoc]
  exact hN _
theorem wrB_len (p : Pt) (h0 : p.b0.length ≤ 2) (h1 : p.b1.length ≤ 2) : ∀ j, (wrB p j).length ≤ 100 := by
  have k : ∀ (l : List UInt8) (s : Int) (ts : List Int), (wr1 l s ts).length ≤ l.length + (6 + 5 * ts.length) := fun l s ts => by
    unfold wr1
    split
    · omega
    · have := row_size s ts
      rw [List.length_append, toL_len]
      omega
  intro j
  match j with
  | 0 => simp [wrB]
  | 1 => have := k [58, 10] 0 p.b0; simp only [wrB]; simp at this ⊢; omega
  | j + 2 =>
    have e1 := k [58, 10] 0 p.b0
    have e2 := k (wr1 [58, 10] 0 p.b0) 1 p.b1
    simp only [wrB]
    simp at e1
    omega
theorem wrN_len (p : Pt) (h : shaped p = true) : ∀ i, i ≤ p.ln.length → (wrN p i).length ≤ 200 + 126 * i := by
  obtain ⟨h0, h1, _, hn, hl⟩ := shaped_all h
  intro i
  induction i with
  | zero =>
    intro _
    have := wrB_len p h0 h1 2
    show (wrD p).length ≤ _
    unfold wrD
    split
    · rw [List.length_append]; simp; omega
    · omega
  | succ i ih =>
    intro hi
    have hmem : p.ln.getD i (0, []) ∈ p.ln := by
      rw [show p.ln.getD i (0, []) = p.ln[i] by simp [List.getD, show i < p.ln.length by omega]]
      exact List.getElem_mem _
    have h2 := (hl _ hmem).2.2.1
    have := row_size (p.ln.getD i (0, [])).1 (p.ln.getD i (0, [])).2
    rw [wrN, List.length_append, toL_len]
    have := ih (by omega)
    omega
theorem BD.below {B b : Nat} {l : List UInt8} {w w' : World} (h : BD B b l w) (hb : Below w.heap.size w w') : BD B b l w' := by
  have k : ∀ p, Lib.BuilderAt 114 5 B b p (Lib.byteCells l) w → Lib.BuilderAt 114 5 B b p (Lib.byteCells l) w' := by
    rintro p ⟨h1, v, h2, h3, h4⟩
    refine ⟨h1, v, (hb.block b (Array.getElem?_eq_some_iff.1 h2).1).trans h2, ?_, h4⟩
    exact owns_below hb h3
  rcases h with h | h
  · exact .inl (k _ h)
  · exact .inr (k _ h)
end Go.Proofs.YtjhleocpipmklaaDoor
namespace Go.Proofs.YtjhleocpipmklaaDoor
set_option linter.unusedSimpArgs false
set_option linter.unusedVariables false
set_option maxRecDepth 100000
open Go.ChangeShapes Go.WideShapes Go.ChangeAt Go.RowKit Go.Pin Go.Pat Go.Deep
end Go.Proofs.YtjhleocpipmklaaDoor
namespace Go.Proofs.YtjhleocpipmklaaDoor
set_option linter.unusedSimpArgs false
set_option linter.unusedVariables false
set_option maxRecDepth 100000
open Go.ChangeShapes Go.WideShapes Go.ChangeAt Go.RowKit Go.Pin Go.Pat Go.Deep
abbrev PN (ea : Int → Addr) : Ending := .panicked [{ v := .iface 173 (.pointer (some (ea 8))), recovered := false }]
theorem must_yes (w : World) : Calls Tryd.prog 103 #[.bool true] w fun e w' => e = .returned (.tuple #[]) ∧ w' = w := by
  go_enter Tryd.func103, Tryd.ntmps103
  go_wp2
  go_end0
  exact ⟨rfl, rfl⟩
theorem must_no {ea : Int → Addr} (w : World) (hE : Errs ea w) : Calls Tryd.prog 103 #[.bool false] w fun e w' => e = PN ea ∧ w' = w := by
  have e2 := (hE.1 8 (by decide)).1
  simp only [eblk] at e2
  go_enter Tryd.func103, Tryd.ntmps103
  go_wp2
  exact ⟨rfl, rfl, rfl⟩
/-- all but the block r is as it was -/
structure Up (r : Nat) (w w' : World) : Prop where
  os : w'.os = w.os
  tape : w'.tape = w.tape
  output : w'.output = w.output
  size : w.heap.size ≤ w'.heap.size
  block : ∀ k, k < w.heap.size → k ≠ r → w'.heap[k]? = w.heap[k]?
theorem Up.refl (r : Nat) (w : World) : Up r w w := ⟨rfl, rfl, rfl, Nat.le_refl _, fun _ _ _ => rfl⟩
theorem Up.trans {r : Nat} {a b c : World} (h : Up r a b) (k : Up r b c) : Up r a c :=
  ⟨k.os.trans h.os, k.tape.trans h.tape, k.output.trans h.output, Nat.le_trans h.size k.size, fun x hx hr => (k.block x (Nat.lt_of_lt_of_le hx h.size) hr).trans (h.block x hx hr)⟩
theorem Up.of {r : Nat} {w w' : World} (h : Below w.heap.size w w') : Up r w w' := ⟨h.os, h.tape, h.output, h.size, fun k hk _ => h.block k hk⟩
theorem Up.to {r q : Nat} {w w' : World} (h : Up r w w') (hq : q ≤ r) (hs : q ≤ w.heap.size) : Below q w w' := ⟨h.os, h.tape, h.output, h.size, fun k hk => h.block k (by omega) (by omega)⟩
theorem Up.set {r : Nat} {a w : World} (h : Up r a w) (i : Nat) (u : Value) : Up r a (w.setCell ⟨r, i, none⟩ u) := by
  have hb := (But.refl (fun k => k = r) w).setCell (p := ⟨r, i, none⟩) rfl u
  exact ⟨hb.os.trans h.os, hb.tape.trans h.tape, hb.output.trans h.output, by rw [hb.size]; exact h.size, fun k hk hr => (hb.block k hr).trans (h.block k hk hr)⟩
def bl (l : List UInt8) : ByteArray := ⟨l.toArray⟩
theorem bl_size (l : List UInt8) : (bl l).size = l.length := List.size_toArray
/-- the reader's box, with what is left of the text -/
def RB (r : Nat) (l : List UInt8) (w : World) : Prop := w.heap[r]? = some (.cells #[.string (bl l)] 135)
theorem RB.c {r : Nat} {l : List UInt8} {w : World} (h : RB r l w) : w.cell? ⟨r, 0, none⟩ = some (.string (bl l)) := by rw [cell_of_row _ _ _ _ _ _ h]; rfl
theorem RB.f {r : Nat} {l : List UInt8} {w : World} (h : RB r l w) : w.frozen? ⟨r, 0, none⟩ = false := frozen_of_row _ _ _ _ _ h
theorem RB.lt {r : Nat} {l : List UInt8} {w : World} (h : RB r l w) : r < w.heap.size := (Array.getElem?_eq_some_iff.1 h).1
theorem RB.set {r : Nat} {l : List UInt8} {w : World} (h : RB r l w) (l' : List UInt8) : RB r l' (w.setCell ⟨r, 0, none⟩ (.string (bl l'))) := by
  unfold RB
  rw [Go.heap_setCell_same _ _ _ _ _ _ h]
  rfl
theorem RB.below {r : Nat} {l : List UInt8} {w w' : World} (h : RB r l w) (hb : Below w.heap.size w w') : RB r l w' := (hb.block r h.lt).trans h
def tke (p l : List UInt8) : List UInt8 := if pfx p l then l.drop p.length else l
theorem tke_len (p l : List UInt8) : (tke p l).length ≤ l.length := by unfold tke; split <;> simp
set_option maxHeartbeats 4000000 in
theorem take_any (r : Nat) (l : List UInt8) (p : ByteArray) (w : World) (h : RB r l w) :
    Calls Tryd.prog 101 #[.pointer (some ⟨r, 0, none⟩), .string p] w fun e w' => e = .returned (.bool (pfx (toL p) l)) ∧ RB r (tke (toL p) l) w' ∧ Up r w w' := by
  have hc := h.c
  have hf := h.f
  have CC := Tryd.strings_CutPrefix (bl l) p w
  have e1 : (⟨(Lib.trimPrefix (bl l).data.toList p.data.toList).toArray⟩ : ByteArray) = bl (tke (toL p) l) := rfl
  have e2 : Lib.hasPrefix (bl l).data.toList p.data.toList = pfx (toL p) l := rfl
  rw [e1, e2] at CC
  obtain ⟨s', hs'⟩ : ∃ s', bl (tke (toL p) l) = s' := ⟨_, rfl⟩
  obtain ⟨pb, hpb⟩ : ∃ b, pfx (toL p) l = b := ⟨_, rfl⟩
  obtain ⟨s, hs⟩ : ∃ s, bl l = s := ⟨_, rfl⟩
  rw [hs', hpb, hs] at CC
  rw [hs] at hc
  have HR : Hid (RB r (tke (toL p) l) (w.setCell ⟨r, 0, none⟩ (.string s')) ∧ Up r w (w.setCell ⟨r, 0, none⟩ (.string s'))) := by
    rw [← hs']
    exact ⟨h.set _, (Up.refl r w).set 0 _⟩
  have HC : Hid _ := CC
  rw [hpb]
  clear h CC e1 e2 hs' hpb hs
  go_enter Tryd.func101, Tryd.ntmps101
  go_wp2_with (go_at_call 76; refine Calls.mono HC.out ?_; rintro e w' ⟨rfl, rfl⟩)
  go_ret
  exact ⟨rfl, HR.out⟩
set_option maxHeartbeats 4000000 in
theorem want_yes (r : Nat) (l : List UInt8) (p : ByteArray) (w : World) (h : RB r l w) (hp : pfx (toL p) l = true) :
    Calls Tryd.prog 99 #[.pointer (some ⟨r, 0, none⟩), .string p] w fun e w' => e = .returned (.tuple #[]) ∧ RB r (l.drop (toL p).length) w' ∧ Up r w w' := by
  have CT := take_any r l p w h
  rw [hp, show tke (toL p) l = l.drop (toL p).length by unfold tke; rw [hp]; rfl] at CT
  have CM := fun y => must_yes y
  clear h hp
  go_enter Tryd.func99, Tryd.ntmps99
  go_wp2_with (first
    | (go_at_call 101; refine CT.mono ?_; rintro e w1 ⟨rfl, h1, h2⟩; have H1 : Hid (RB r (l.drop (toL p).length) w1 ∧ Up r w w1) := ⟨h1, h2⟩; clear h1 h2 CT)
    | (go_at_call 103; refine (CM _).mono ?_; rintro e w2 ⟨rfl, rfl⟩))
  go_end0
  exact ⟨rfl, H1.out⟩
set_option maxHeartbeats 4000000 in
theorem want_no {ea : Int → Addr} (r : Nat) (l : List UInt8) (p : ByteArray) (w : World) (hE : ∀ y, Up r w y → Errs ea y) (h : RB r l w) (hp : pfx (toL p) l = false) :
    Calls Tryd.prog 99 #[.pointer (some ⟨r, 0, none⟩), .string p] w fun e w' => e = PN ea ∧ Up r w w' := by
  have CT := take_any r l p w h
  rw [hp] at CT
  have CM := fun y hy => must_no (ea := ea) y (hE y hy)
  have HCM : Hid _ := CM
  clear h hp hE CM
  go_enter Tryd.func99, Tryd.ntmps99
  go_wp2_with (first
    | (go_at_call 101; refine CT.mono ?_; rintro e w1 ⟨rfl, h1, h2⟩; have H1 : Hid (Up r w w1) := h2; clear h1 h2 CT)
    | (go_at_call 103; refine (HCM.out _ H1.out).mono ?_; rintro e w2 ⟨rfl, rfl⟩))
  exact ⟨rfl, rfl, H1.out⟩
end Go.Proofs.YtjhleocpipmklaaDoor
namespace Go.Proofs.YtjhleocpipmklaaDoor
set_option linter.unusedSimpArgs false
set_option linter.unusedVariables false
set_option maxRecDepth 100000
open Go.ChangeShapes Go.WideShapes Go.ChangeAt Go.RowKit Go.Pin Go.Pat Go.Deep
theorem sclone_any (s : ByteArray) (hs : s.size ≤ 140737488365328) (w : World) : Calls Tryd.prog 41 #[.string s] w fun e w' => e = .returned (.string s) ∧ Below w.heap.size w w' := by
  have C := Tryd.stringslite_Clone s w (by omega)
  go_enter Tryd.func41, Tryd.ntmps41
  go_wp2_with (go_at_call 65; refine C.mono ?_; rintro e w1 ⟨rfl, h1⟩; have H1 : Hid (Below w.heap.size w w1) := h1; clear h1)
  go_ret
  exact ⟨rfl, H1.out⟩
theorem bl_ext0 (l : List UInt8) (n : Nat) : (bl l).extract 0 n = bl (l.take n) := toL_inj (by rw [toL_ext]; rfl)
theorem bl_ext1 (l : List UInt8) (n : Nat) : (bl l).extract n (bl l).size = bl (l.drop n) := toL_inj (by rw [toL_ext, bl_size, show toL (bl l) = l from rfl, List.take_of_length_le (Nat.le_refl _)]; rfl)
set_option maxHeartbeats 4000000 in
theorem rname_yes (r : Nat) (l : List UInt8) (hl : l.length ≤ 4096) (w : World) (h : RB r l w) (h0 : ctb nmB l ≠ 0) :
    Calls Tryd.prog 98 #[.pointer (some ⟨r, 0, none⟩)] w fun e w' => e = .returned (.string (bl (l.take (ctb nmB l)))) ∧ RB r (l.drop (ctb nmB l)) w' ∧ Up r w w' := by
  have hsz := bl_size l
  have CN := nameLength_any (bl l) (by omega) w
  rw [show toL (bl l) = l from rfl] at CN
  have hle := ctb_le nmB l
  have e0 := bl_ext0 l (ctb nmB l)
  have e1 := bl_ext1 l (ctb nmB l)
  have hset := fun y (hy : RB r l y) => hy.set (l.drop (ctb nmB l))
  have CC := fun y => sclone_any (bl (l.take (ctb nmB l))) (by rw [bl_size, List.length_take]; omega) y
  obtain ⟨n, hn⟩ : ∃ n, ctb nmB l = n := ⟨_, rfl⟩
  rw [hn] at CN hle e0 e1 hset CC h0
  rw [hn]
  have HS : Hid _ := hset
  have HR : Hid (RB r l w) := h
  have hc := h.c
  have hf := h.f
  obtain ⟨s, hs⟩ : ∃ s, bl l = s := ⟨_, rfl⟩
  rw [hs] at CN hc e0 e1 hsz
  obtain ⟨a, ha⟩ : ∃ s, bl (l.take n) = s := ⟨_, rfl⟩
  obtain ⟨b, hb⟩ : ∃ s, bl (l.drop n) = s := ⟨_, rfl⟩
  rw [ha] at e0 CC
  rw [hb] at e1 HS
  rw [ha]
  rw [hsz] at e1
  have CM := fun y => must_yes y
  have g0 : (0 : Int) < (n : Int) := by omega
  have g0' : 0 < n := by omega
  have g1 : (n : Int) ≤ (s.size : Int) := by omega
  have g2 : (s.size : Int) ≤ 4096 := by omega
  have HC : Hid (∀ y, RB r l y → y.cell? ⟨r, 0, none⟩ = some (.string s) ∧ y.frozen? ⟨r, 0, none⟩ = false) := fun y hy => by rw [← hs]; exact ⟨hy.c, hy.f⟩
  clear h hset hs ha hb hn h0
  go_enter Tryd.func98, Tryd.ntmps98
  go_upto_region 4 with (first
    | (go_at_call 112; refine CN.mono ?_; rintro e w1 ⟨rfl, rfl⟩)
    | (go_at_call 103; refine (CM _).mono ?_; rintro e w2 ⟨rfl, rfl⟩)
    | (go_at_call 41; (try rw [e0]); refine (CC _).mono ?_; rintro e w3 ⟨rfl, h3⟩; have H3 : Hid (RB r l w3 ∧ Below _ _ w3) := ⟨HR.out.below h3, h3⟩; clear h3 hc hf))
  have hc := (HC.out w3 H3.out.1).1
  have hf := (HC.out w3 H3.out.1).2
  go_wp2
  go_ret
  exact ⟨rfl, HS.out w3 H3.out.1, (Up.of H3.out.2).set 0 _⟩
set_option maxHeartbeats 4000000 in
theorem rname_no {ea : Int → Addr} (r : Nat) (l : List UInt8) (hl : l.length ≤ 4096) (w : World) (hE : Errs ea w) (h : RB r l w) (h0 : ctb nmB l = 0) :
    Calls Tryd.prog 98 #[.pointer (some ⟨r, 0, none⟩)] w fun e w' => e = PN ea ∧ Up r w w' := by
  have hsz := bl_size l
  have CN := nameLength_any (bl l) (by omega) w
  rw [show toL (bl l) = l from rfl, h0] at CN
  have hc := h.c
  have CM := must_no w hE
  have CN' : Calls Tryd.prog 112 #[.string (bl l)] w fun e w' => e = .returned (.int .i64 0) ∧ w' = w := CN
  clear h hsz CN h0
  go_enter Tryd.func98, Tryd.ntmps98
  go_wp2_with (first
    | (go_at_call 112; refine CN'.mono ?_; rintro e w1 ⟨rfl, rfl⟩)
    | (go_at_call 103; refine CM.mono ?_; rintro e w2 ⟨rfl, rfl⟩))
  exact ⟨rfl, rfl, Up.refl _ _⟩
/-- the token whose word it is -/
theorem wrd_inj : ∀ j : Nat, j < 8 → ∀ k : Nat, k < 8 → wrd (j : Int) = wrd (k : Int) → j = k := by
  intro j hj k hk h
  have key : ∀ j : Fin 8, ∀ k : Fin 8, toL (wrd ((j : Nat) : Int)) = toL (wrd ((k : Nat) : Int)) → j = k := by decide
  have := key ⟨j, hj⟩ ⟨k, hk⟩ (by rw [h])
  simpa using this
theorem tokO_hit (x : ByteArray) (i : Nat) (hi : i < 8) (h1 : 1 ≤ i) (h : wrd (i : Int) = x) : ∀ n, i ≤ n → n ≤ 7 → tokO x n = i
  | 0, h0, _ => by omega
  | n + 1, hn, h7 => by
    unfold tokO
    split
    · rename_i hw
      exact wrd_inj _ (by omega) _ hi (hw.trans h.symm)
    · rename_i hw
      have : i ≠ n + 1 := fun e => hw (by rw [← e]; exact h)
      exact tokO_hit x i hi h1 h n (by omega) (by omega)
theorem tokO_miss (x : ByteArray) (h : ∀ j : Nat, 1 ≤ j → j < 8 → wrd (j : Int) ≠ x) : ∀ n, n ≤ 7 → tokO x n = 0
  | 0, _ => rfl
  | n + 1, h7 => by
    unfold tokO
    rw [if_neg (h (n + 1) (by omega) (by omega))]
    exact tokO_miss x h n (by omega)
theorem words_index (i : Nat) (h : i < 8) (w : World) : (Instr.index 172 (.agg c_tokenWords.toArray) (.int .i64 i)).run Tryd.prog w = .ok (.string (wrd i)) w := by
  rcases (by omega : i = 0 ∨ i = 1 ∨ i = 2 ∨ i = 3 ∨ i = 4 ∨ i = 5 ∨ i = 6 ∨ i = 7) with rfl | rfl | rfl | rfl | rfl | rfl | rfl | rfl
  all_goals kernel_rfl
/-- what tokenOf answers -/
def TkP (ea : Int → Addr) (x : ByteArray) (w : World) (e : Ending) (w' : World) : Prop :=
  w' = w ∧ if tokO x 7 = 0 then e = PN ea else e = .returned (.int .i64 (tokO x 7))
set_option maxHeartbeats 4000000 in
theorem tokenOf_any {ea : Int → Addr} (x : ByteArray) (hx : x.size ≠ 0) (w : World) (hE : Errs ea w) : Calls Tryd.prog 118 #[.string x] w (TkP ea x w) := by
  have hT := hE.2.tokenWords
  have hI : (Tryd.prog.info? 172).map (·.size) = some c_tokenWords.toArray.size := by kernel_rfl
  have hix := fun i hi => words_index i hi w
  obtain ⟨cz, hcz⟩ : ∃ cz, c_tokenWords = cz := ⟨_, rfl⟩
  rw [hcz] at hI hT hix
  obtain ⟨HA, hHA⟩ : ∃ HA, cz.toArray = HA := ⟨_, rfl⟩
  rw [hHA] at hI hix
  have HT : Hid (w.rangeAt 10 0 cz) := hT
  have HI : Hid _ := hI
  have HH : Hid (cz.toArray = HA) := hHA
  have HIX : Hid _ := hix
  have e2 := (hE.1 8 (by decide)).1
  simp only [eblk] at e2
  have HX : Hid (x.size ≠ 0) := hx
  clear hI hHA hcz hT hix hE hx
  go_enter Tryd.func118, Tryd.ntmps118
  go_upto_region 2 with (with_reducible refine at_list ?_; refine wpList_load_midA rfl 172 (.global 10) rfl 10 0 rfl cz HA HH.out _ HT.out Tryd.underlying172 rfl HI.out ?_)
  go_loopw [6] (fun v6 wr => ∃ i : Nat, i ≤ 8 ∧ v6 = .int .i64 i ∧ (∀ j : Nat, j < i → wrd (j : Int) ≠ x) ∧ wr = w) (fun v _ => 8 - (intOf v).toNat)
  case atStart => exact ⟨0, Nat.zero_le _, rfl, fun j hj => by omega, rfl⟩
  case round =>
    obtain ⟨i, hi, rfl, hall, rfl⟩ := hrel
    by_cases hlt : i < 8
    · have b1 : (i : Int) < 8 := by omega
      have hx1 := HIX.out i hlt
      obtain ⟨y, hy⟩ : ∃ y, wrd (i : Int) = y := ⟨_, rfl⟩
      rw [hy] at hx1
      by_cases he : x = y
      · have HR : Hid (tokO x 7 = i ∧ i ≠ 0) := by
          have hi0 : i ≠ 0 := fun h0 => by
            apply HX.out
            rw [he, ← hy, h0]
            rfl
          exact ⟨tokO_hit x i hlt (by omega) (by rw [hy, he]) 7 (by omega) (by omega), hi0⟩
        clear hall hi hy
        subst he
        go_wp2
        go_ret
        refine ⟨rfl, ?_⟩
        rw [HR.out.1, if_neg HR.out.2]
        rfl
      · have hne : ¬ y = x := fun e => he e.symm
        have HA2 : Hid (∀ j : Nat, j < i + 1 → wrd (j : Int) ≠ x) := fun j hj => by
          by_cases hji : j = i
          · rw [hji, hy]; exact hne
          · exact hall j (by omega)
        have hbl : (x.toList == y.toList) = false := by
          rw [Go.ByteArray.toList_eq, Go.ByteArray.toList_eq]
          simp only [beq_eq_false_iff_ne, ne_eq]
          exact fun e => he (toL_inj e)
        clear hall hi hy
        go_wp2
        exact ⟨⟨i + 1, hlt, congrArg (Value.int .i64) (by omega), HA2.out, trivial⟩, by show 8 - ((i : Int) + 1).toNat < 8 - ((i : Int)).toNat; omega⟩
    · have b1 : ¬ (i : Int) < 8 := by omega
      have HR : Hid (tokO x 7 = 0) := tokO_miss x (fun j _ hj => hall j (by omega)) 7 (by omega)
      clear hall hi
      go_wp2
      refine ⟨rfl, rfl, ?_⟩
      rw [HR.out]
      rfl
end Go.Proofs.YtjhleocpipmklaaDoor
