import Derived.Shelf.Strings.Builder1
import Derived.Shelf.Strings.Builder2
import Derived.Shelf.Strings.OnBuilder
import Derived.Shelf.Small.Bits
import Derived.Shelf.Small.Wraps
import Derived.Shelf.Strconv.Itoa0
import Derived.Shelf.LaysM
import Derived.Shelf.Strconv.Clone
import Derived.Shelf.Sort.Plain
import Derived.Shelf.Strings.Prefix
import Derived.Shelf.Slices.Reverse
import Derived.Ground.Names2Prog
import Derived.Shelf.Slices.Clone
import Derived.Shelf.Slices.SearchI
import Derived.Shelf.Slices.Cells
import Derived.Shelf.Slices.In.SortNone
import Derived.Ground.SlgnProg
import Derived.Shelf.SlicesE.Clone
import Derived.Test.YtchnkpgkckadmabGreatDoorProg
import Derived.Maps.AppendAt
import Derived.Test.YtchnkpgkckadmabGreatDoorMoak
import Derived.Test.YtchnkpgkckadmabGreatDoorMoaa
/- contracts of Go's library, laid at this program -/
namespace Go.Proofs
set_option linter.unusedVariables false
open Go.Shelf Go.RowKit Go.Lib Go.Sort
def Tryz.lays156_ren : Go.Shelf.Ren := ⟨fun | 156 => 32 | 165 => 55 | 166 => 56 | 169 => 57 | 240 => 79 | 241 => 80 | 276 => 100 | 277 => 101 | n => n, fun | 31 => 22 | 9 => 9 | 3 => 3 | 4 => 4 | 0 => 0 | 20 => 20 | 72 => 98 | 76 => 100 | 70 => 95 | 37 => 96 | 75 => 32 | 127 => 133 | 164 => 147 | 5 => 5 | 80 => 77 | n => n, fun | n => n⟩
theorem Tryz.lays156 : Go.Proofs.Lays.n156 Tryz.prog Tryz.lays156_ren := {
  mixed := by kernel_rfl
  f156 := Tryz.func32.trans (congrArg some (by kernel_rfl))
  f165 := Tryz.func55.trans (congrArg some (by kernel_rfl))
  f166 := Tryz.func56.trans (congrArg some (by kernel_rfl))
  f169 := Tryz.func57.trans (congrArg some (by kernel_rfl))
  f240 := Tryz.func79.trans (congrArg some (by kernel_rfl))
  f241 := Tryz.func80.trans (congrArg some (by kernel_rfl))
  f276 := Tryz.func100.trans (congrArg some (by kernel_rfl))
  f277 := Tryz.func101.trans (congrArg some (by kernel_rfl))
  t0 := Tryz.underlying0
  a0 := Tryz.isAgg0
  z0 := Tryz.sizeOf0
  v0 := Tryz.zeroValue0
  t3 := Tryz.underlying3
  a3 := Tryz.isAgg3
  z3 := Tryz.sizeOf3
  v3 := Tryz.zeroValue3
  t4 := Tryz.underlying4
  a4 := Tryz.isAgg4
  z4 := Tryz.sizeOf4
  v4 := Tryz.zeroValue4
  t9 := Tryz.underlying9
  a9 := Tryz.isAgg9
  z9 := Tryz.sizeOf9
  v9 := Tryz.zeroValue9
  t20 := Tryz.underlying20
  a20 := Tryz.isAgg20
  z20 := Tryz.sizeOf20
  v20 := Tryz.zeroValue20
  t31 := Tryz.underlying22
  a31 := Tryz.isAgg22
  z31 := Tryz.sizeOf22
  v31 := Tryz.zeroValue22
  t37 := Tryz.underlying96
  a37 := Tryz.isAgg96
  z37 := Tryz.sizeOf96
  v37 := Tryz.zeroValue96
  t70 := Tryz.underlying95
  a70 := Tryz.isAgg95
  z70 := Tryz.sizeOf95
  v70 := Tryz.zeroValue95
  t72 := Tryz.underlying98
  a72 := Tryz.isAgg98
  z72 := Tryz.sizeOf98
  v72 := Tryz.zeroValue98
  t75 := Tryz.underlying32
  a75 := Tryz.isAgg32
  z75 := Tryz.sizeOf32
  v75 := Tryz.zeroValue32
  t76 := Tryz.underlying100
  a76 := Tryz.isAgg100
  z76 := Tryz.sizeOf100
  v76 := Tryz.zeroValue100
  t127 := Tryz.underlying133
  a127 := Tryz.isAgg133
  z127 := Tryz.sizeOf133
  v127 := Tryz.zeroValue133
  t164 := Tryz.underlying147
  a164 := Tryz.isAgg147
  z164 := Tryz.sizeOf147
  v164 := Tryz.zeroValue147 }
theorem Tryz.Builder_Extra_156 : Builder.Extra Tryz.prog Tryz.lays156_ren := {
  sizeBuilder := by kernel_rfl
  liesBuilder := by kernel_rfl
  t5 := Tryz.underlying5
  a5 := Tryz.isAgg5
  z5 := Tryz.sizeOf5
  v5 := Tryz.zeroValue5
  infoByte := by kernel_rfl
  cellsByte := by kernel_rfl
  sizeByte := by kernel_rfl
  neB5 := by decide }
theorem Tryz.strings_Join_none (a : Option Addr) (c : Nat) (sep : ByteArray) (w : World) :
    Calls Tryz.prog 32 #[.slice a 0 c, .string sep] w fun e w' => e = .returned (.string ⟨#[]⟩) ∧ w' = w := Any.strings_Join_none Tryz.lays156 Tryz.Builder_Extra_156 a c sep w
theorem Tryz.strings_Join (bk o c : Nat) (xs : List ByteArray) (sep : ByteArray) (w : World) (hcells : ∀ (j : Nat) x, xs[j]? = some x → w.cell? ⟨bk, o + j, none⟩ = some (.string x)) (hbk : bk < w.heap.size) (hN : xs.length ≤ 140737488355328) (hcap : xs.length ≤ c) (hlen : (Lib.join (xs.map (·.data.toList)) sep.data.toList).length ≤ 140737488355328) :
    Calls Tryz.prog 32 #[.slice (some ⟨bk, o, none⟩) xs.length c, .string sep] w fun e w' => e = .returned (.string ⟨(Lib.join (xs.map (·.data.toList)) sep.data.toList).toArray⟩) ∧ Below w.heap.size w w' := Any.strings_Join Tryz.lays156 Tryz.Builder_Extra_156 bk o c xs sep w hcells hbk hN hcap hlen
def Tryz.lays103_ren : Go.Shelf.Ren := ⟨fun | 103 => 71 | 210 => 89 | 206 => 105 | n => n, fun | 9 => 9 | 4 => 4 | 24 => 117 | 3 => 3 | n => n, fun | n => n⟩
theorem Tryz.lays103 : Go.Proofs.Lays.n103 Tryz.prog Tryz.lays103_ren := {
  mixed := by kernel_rfl
  f103 := Tryz.func71.trans (congrArg some (by kernel_rfl))
  f206 := Tryz.func105.trans (congrArg some (by kernel_rfl))
  f210 := Tryz.func89.trans (congrArg some (by kernel_rfl))
  t3 := Tryz.underlying3
  a3 := Tryz.isAgg3
  z3 := Tryz.sizeOf3
  v3 := Tryz.zeroValue3
  t4 := Tryz.underlying4
  a4 := Tryz.isAgg4
  z4 := Tryz.sizeOf4
  v4 := Tryz.zeroValue4
  t9 := Tryz.underlying9
  a9 := Tryz.isAgg9
  z9 := Tryz.sizeOf9
  v9 := Tryz.zeroValue9
  t24 := Tryz.underlying117
  a24 := Tryz.isAgg117
  z24 := Tryz.sizeOf117
  v24 := Tryz.zeroValue117 }
theorem Tryz.strings_CutPrefix (s p : ByteArray) (w : World) :
    Calls Tryz.prog 71 #[.string s, .string p] w fun e w' => e = .returned (.tuple #[.string ⟨(Lib.trimPrefix s.data.toList p.data.toList).toArray⟩, .bool (Lib.hasPrefix s.data.toList p.data.toList)]) ∧ w' = w := Any.strings_CutPrefix Tryz.lays103 s p w
def Tryz.laysM316_ren : Go.Shelf.Ren := ⟨fun | 316 => 54 | n => n, fun | 9 => 9 | 3 => 3 | 4 => 4 | 37 => 96 | 0 => 0 | 127 => 133 | 5 => 5 | n => n, fun | n => n⟩
theorem Tryz.laysM316 : Go.Proofs.LaysM.n316 Tryz.prog Tryz.laysM316_ren := {
  mixed := by kernel_rfl
  f316 := Tryz.func54.trans (congrArg some (by kernel_rfl))
  t0 := Tryz.underlying0
  a0 := Tryz.isAgg0
  z0 := Tryz.sizeOf0
  v0 := Tryz.zeroValue0
  t3 := Tryz.underlying3
  a3 := Tryz.isAgg3
  z3 := Tryz.sizeOf3
  v3 := Tryz.zeroValue3
  t4 := Tryz.underlying4
  a4 := Tryz.isAgg4
  z4 := Tryz.sizeOf4
  v4 := Tryz.zeroValue4
  t9 := Tryz.underlying9
  a9 := Tryz.isAgg9
  z9 := Tryz.sizeOf9
  v9 := Tryz.zeroValue9
  t37 := Tryz.underlying96
  a37 := Tryz.isAgg96
  z37 := Tryz.sizeOf96
  v37 := Tryz.zeroValue96
  t127 := Tryz.underlying133
  a127 := Tryz.isAgg133
  z127 := Tryz.sizeOf133
  v127 := Tryz.zeroValue133
  t5 := Tryz.underlying5
  a5 := Tryz.isAgg5
  z5 := Tryz.sizeOf5
  v5 := Tryz.zeroValue5
  i0 := by kernel_rfl
  i3 := by kernel_rfl
  i4 := by kernel_rfl
  i5 := by kernel_rfl
  i9 := by kernel_rfl
  i37 := by kernel_rfl
  i127 := by kernel_rfl }
theorem Tryz.stringslite_Clone (s : ByteArray) (w : World) (hlim : s.size ≤ 281474976710656) :
    Calls Tryz.prog 54 #[.string s] w fun e w' => e = .returned (.string s) ∧ Below w.heap.size w w' := Any.stringslite_Clone Tryz.laysM316 s w hlim
def Tryz.laysNm215_ren : Go.Shelf.Ren := ⟨fun | 15 => 47 | n => n, fun | 22 => 26 | 3 => 3 | 4 => 4 | n => n, fun | n => n⟩
theorem Tryz.laysNm215 : Go.Proofs.Lays2.n15 Tryz.prog Tryz.laysNm215_ren := {
  mixed := by kernel_rfl
  f15 := Tryz.func47.trans (congrArg some (by kernel_rfl))
  t3 := Tryz.underlying3
  a3 := Tryz.isAgg3
  z3 := Tryz.sizeOf3
  v3 := Tryz.zeroValue3
  t4 := Tryz.underlying4
  a4 := Tryz.isAgg4
  z4 := Tryz.sizeOf4
  v4 := Tryz.zeroValue4
  t22 := Tryz.underlying26
  a22 := Tryz.isAgg26
  z22 := Tryz.sizeOf26
  v22 := Tryz.zeroValue26
  i3 := by kernel_rfl }
theorem Tryz.slices_Clone_int (b off n c : Nat) (zs : List Int) (w : World) (hz : n ≤ zs.length) (hbig : n * 8 ≤ 140737488355328) (hc : ∀ j, j < zs.length → w.cell? ⟨b, off + j, none⟩ = some (.int .i64 (zs.getD j 0))) :
    Calls Tryz.prog 47 #[.slice (some ⟨b, off, none⟩) n c] w fun e w' => ∃ v', e = .returned v' ∧ w'.ownsRow w.heap.size 3 1 v' n ((zs.take n).map (Value.int .i64)) ∧ v' ≠ .slice none 0 0 ∧ Below w.heap.size w w' := Any.slices_Clone_int Tryz.laysNm215 b off n c zs w hz hbig hc
theorem Tryz.slices_Clone_int_nil (n c : Nat) (w : World) :
    Calls Tryz.prog 47 #[.slice none n c] w fun e w' => e = .returned (.slice none 0 0) ∧ w' = w := Any.slices_Clone_int_nil Tryz.laysNm215 n c w
theorem Tryz.slices_Clone_int_zero (a : Addr) (c : Nat) (w : World) :
    Calls Tryz.prog 47 #[.slice (some a) 0 c] w fun e w' => ∃ v', e = .returned v' ∧ w'.ownsRow w.heap.size 3 1 v' 0 [] ∧ v' ≠ .slice none 0 0 ∧ Below w.heap.size w w' := Any.slices_Clone_int_zero Tryz.laysNm215 a c w
def Tryz.lays189_ren : Go.Shelf.Ren := ⟨fun | 189 => 51 | 125 => 35 | 257 => 76 | 128 => 67 | 129 => 68 | 294 => 90 | 295 => 91 | 296 => 92 | 297 => 93 | 298 => 94 | 299 => 95 | 216 => 96 | 300 => 97 | 301 => 98 | 328 => 106 | 329 => 82 | 330 => 83 | 331 => 107 | 332 => 108 | 215 => 109 | 343 => 111 | n => n, fun | 28 => 26 | 3 => 3 | 46 => 75 | 0 => 0 | 51 => 111 | 53 => 113 | 4 => 4 | 183 => 104 | 182 => 103 | 131 => 68 | 5 => 5 | 9 => 9 | 218 => 134 | 222 => 138 | 228 => 150 | 229 => 151 | n => n, fun | n => n⟩
theorem Tryz.lays189 : Go.Proofs.Lays.n189 Tryz.prog Tryz.lays189_ren := {
  mixed := by kernel_rfl
  f125 := Tryz.func35.trans (congrArg some (by kernel_rfl))
  f128 := Tryz.func67.trans (congrArg some (by kernel_rfl))
  f129 := Tryz.func68.trans (congrArg some (by kernel_rfl))
  f189 := Tryz.func51.trans (congrArg some (by kernel_rfl))
  f215 := Tryz.func109.trans (congrArg some (by kernel_rfl))
  f216 := Tryz.func96.trans (congrArg some (by kernel_rfl))
  f257 := Tryz.func76.trans (congrArg some (by kernel_rfl))
  f294 := Tryz.func90.trans (congrArg some (by kernel_rfl))
  f295 := Tryz.func91.trans (congrArg some (by kernel_rfl))
  f296 := Tryz.func92.trans (congrArg some (by kernel_rfl))
  f297 := Tryz.func93.trans (congrArg some (by kernel_rfl))
  f298 := Tryz.func94.trans (congrArg some (by kernel_rfl))
  f299 := Tryz.func95.trans (congrArg some (by kernel_rfl))
  f300 := Tryz.func97.trans (congrArg some (by kernel_rfl))
  f301 := Tryz.func98.trans (congrArg some (by kernel_rfl))
  f328 := Tryz.func106.trans (congrArg some (by kernel_rfl))
  f329 := Tryz.func82.trans (congrArg some (by kernel_rfl))
  f330 := Tryz.func83.trans (congrArg some (by kernel_rfl))
  f331 := Tryz.func107.trans (congrArg some (by kernel_rfl))
  f332 := Tryz.func108.trans (congrArg some (by kernel_rfl))
  f343 := Tryz.func111.trans (congrArg some (by kernel_rfl))
  t0 := Tryz.underlying0
  a0 := Tryz.isAgg0
  z0 := Tryz.sizeOf0
  v0 := Tryz.zeroValue0
  t3 := Tryz.underlying3
  a3 := Tryz.isAgg3
  z3 := Tryz.sizeOf3
  v3 := Tryz.zeroValue3
  t4 := Tryz.underlying4
  a4 := Tryz.isAgg4
  z4 := Tryz.sizeOf4
  v4 := Tryz.zeroValue4
  t5 := Tryz.underlying5
  a5 := Tryz.isAgg5
  z5 := Tryz.sizeOf5
  v5 := Tryz.zeroValue5
  t9 := Tryz.underlying9
  a9 := Tryz.isAgg9
  z9 := Tryz.sizeOf9
  v9 := Tryz.zeroValue9
  t28 := Tryz.underlying26
  a28 := Tryz.isAgg26
  z28 := Tryz.sizeOf26
  v28 := Tryz.zeroValue26
  t46 := Tryz.underlying75
  a46 := Tryz.isAgg75
  z46 := Tryz.sizeOf75
  v46 := Tryz.zeroValue75
  t51 := Tryz.underlying111
  a51 := Tryz.isAgg111
  z51 := Tryz.sizeOf111
  v51 := Tryz.zeroValue111
  t53 := Tryz.underlying113
  a53 := Tryz.isAgg113
  z53 := Tryz.sizeOf113
  v53 := Tryz.zeroValue113
  t131 := Tryz.underlying68
  a131 := Tryz.isAgg68
  z131 := Tryz.sizeOf68
  v131 := Tryz.zeroValue68
  t182 := Tryz.underlying103
  a182 := Tryz.isAgg103
  z182 := Tryz.sizeOf103
  v182 := Tryz.zeroValue103
  t183 := Tryz.underlying104
  a183 := Tryz.isAgg104
  z183 := Tryz.sizeOf104
  v183 := Tryz.zeroValue104
  t218 := Tryz.underlying134
  a218 := Tryz.isAgg134
  z218 := Tryz.sizeOf134
  v218 := Tryz.zeroValue134
  t222 := Tryz.underlying138
  a222 := Tryz.isAgg138
  z222 := Tryz.sizeOf138
  v222 := Tryz.zeroValue138
  t228 := Tryz.underlying150
  a228 := Tryz.isAgg150
  z228 := Tryz.sizeOf150
  v228 := Tryz.zeroValue150
  t229 := Tryz.underlying151
  a229 := Tryz.isAgg151
  z229 := Tryz.sizeOf151
  v229 := Tryz.zeroValue151 }
theorem Tryz.slices_Sort_int (blk off cap : Nat) (zs : List Int) (w : World) (hH : Holds (Value.int .i64) w blk off zs.toArray) (hblk : blk < w.heap.size) (hsz : zs.length < 4611686018427387904) :
    Calls Tryz.prog 51 #[.slice (some ⟨blk, off, none⟩) zs.length cap] w fun e w' =>
      e = .returned (.tuple #[]) ∧ ∃ n os, w' = grow (putRow (Value.int .i64) (Sort.ahead w n) blk off (zs.mergeSort fun x y => decide (x ≤ y)).toArray) os := Any.slices_Sort_int Tryz.lays189 blk off cap zs w hH hblk hsz
theorem Tryz.slices_Sort_int_none (p : Option Addr) (cap : Nat) (w : World) :
    Calls Tryz.prog 51 #[.slice p 0 cap] w fun e w' => e = .returned (.tuple #[]) ∧ w' = w := Any.slices_Sort_int_none Tryz.lays189 p cap w
end Go.Proofs
namespace Go.Proofs.YtchnkpgkckadmabGreatDoor
set_option linter.unusedSimpArgs false
set_option linter.unusedVariables false
set_option maxRecDepth 100000
open Go.ChangeShapes Go.WideShapes Go.ChangeAt Go.RowKit Go.Pin Go.Pat Go.Deep
/-- a builder that holds these bytes -/
def BD (B b : Nat) (l : List UInt8) (w : World) : Prop := Lib.IsBuilder 98 5 B b (Lib.byteCells l) w
theorem bd_new (w : World) : BD w.heap.size w.heap.size [] (w.alloc (.cells #[.pointer none, .slice none 0 0] 98)) := Lib.fresh_isBuilder _ _ w
theorem bwrite_any (B b : Nat) (l : List UInt8) (s : ByteArray) (w : World) (h : BD B b l w) (hl : l.length + s.size ≤ 140737488355328) (hB : B ≤ w.heap.size) :
    Calls Tryz.prog 56 #[.pointer (some ⟨b, 0, none⟩), .string s] w fun e w' => e = .returned (.tuple #[.int .i64 s.size, .nilIface]) ∧ BD B b (l ++ toL s) w' ∧ Below B w w' := by
  have hc : ∀ (a c : List UInt8), Lib.byteCells (a ++ c) = Lib.byteCells a ++ Lib.byteCells c := fun a c => by simp [Lib.byteCells]
  refine (Any.Builder_WriteString (ρ := Tryz.lays156_ren) { Tryz.lays156 with } Tryz.Builder_Extra_156 B b (Lib.byteCells l) s w h (by simpa [Lib.byteCells] using hl) hB).mono ?_
  rintro e w' ⟨rfl, h1, h2⟩
  refine ⟨rfl, .inr ?_, h2⟩
  rw [hc]
  exact h1
theorem bstring_any (B b : Nat) (l : List UInt8) (w : World) (h : BD B b l w) (hB : B ≤ w.heap.size) :
    Calls Tryz.prog 57 #[.pointer (some ⟨b, 0, none⟩)] w fun e w' => e = .returned (.string ⟨l.toArray⟩) ∧ Below B w w' :=
  Any.Builder_String_any (ρ := Tryz.lays156_ren) { Tryz.lays156 with } Tryz.Builder_Extra_156 B b l w h hB
theorem head_at {w : World} (h : Tabs w) (s : Nat) (hs : s < 2) : w.cell? ⟨5, s, none⟩ = some (.string (hdr s)) := by
  have := h.heads s (.string (hdr s)) (by rcases (by omega : s = 0 ∨ s = 1) with rfl | rfl <;> rfl)
  rw [Nat.zero_add] at this
  exact this
theorem word_at {w : World} (h : Tabs w) (k : Nat) (hk : k ≤ 7) : w.cell? ⟨11, k, none⟩ = some (.string (wrd k)) := by
  have := h.tokenWords k (.string (wrd k)) (by rcases (by omega : k = 0 ∨ k = 1 ∨ k = 2 ∨ k = 3 ∨ k = 4 ∨ k = 5 ∨ k = 6 ∨ k = 7) with rfl | rfl | rfl | rfl | rfl | rfl | rfl | rfl <;> rfl)
  rw [Nat.zero_add] at this
  exact this
end Go.Proofs.YtchnkpgkckadmabGreatDoor
/- lists of one's own that grow by one; append in a drawn region and outside of one -/
namespace Go.Proofs.YtchnkpgkckadmabGreatDoor
set_option linter.unusedSimpArgs false
set_option linter.unusedVariables false
open Go.ChangeShapes Go.WideShapes Go.ChangeAt Go.RowKit Go.Pin Go.Pat
theorem wpApp {P : Program} {o : Oper} {a : Act} {w : World} {K : Act → World → Prop} {Q : Exit → Act → World → Prop} {s x : Operand} {t : TypeId} {v u : Value} {R : Value → World → Prop} {d : Option Nat}
    (ho : o.op = .call { callee := .builtin .append, args := #[s, x], argTypes := #[t, t] }) (hd : o.dst = d) (hs : a.eval s = v) (hx : a.eval x = u) (hr : ∀ ty, ∃ v' w', (Builtin.append_ #[t, t] ty #[v, u]).run P w = .ok v' w' ∧ R v' w') (h : ∀ v' w', R v' w' → K (a.put d v') w') : Oper.wp P o a w K Q := by
  subst hd
  obtain ⟨v', w', h1, h2⟩ := hr o.type
  unfold Oper.wp execOp
  simp only [ho, resolve, invoke, builtin, Sem.run_bind, Sem.run_pure, Result.andThen_ok, List.map_toArray, List.map_cons, List.map_nil, hs, hx, h1]
  exact h v' w' h2
theorem wpList_app {P : Program} (w : World) {ops : Array Oper} {rest : List Oper} {o : Oper} {a : Act} {Q : Exit → Act → World → Prop} {R : Value → World → Prop} (hgd : o.guard = none) (d s : Operand) (t t' : TypeId)
    (ho : o.op = .call { callee := .builtin .append, args := #[d, s], argTypes := #[t, t'] }) (v u : Value) (hd : a.eval d = v) (hs : a.eval s = u)
    (hr : ∀ ty, ∃ v' w', (Builtin.append_ #[t, t'] ty #[v, u]).run P w = .ok v' w' ∧ R v' w') (h : ∀ v' w', R v' w' → wpList P ops Q rest (a.put o.dst v') w') : wpList P ops Q (o :: rest) a w :=
  wpList_plain hgd fun _ hK => by
    obtain ⟨v', w', h1, h2⟩ := hr o.type
    unfold Oper.wp execOp
    simp only [ho, resolve, invoke, builtin, Sem.run_bind, Sem.run_pure, Result.andThen_ok, List.map_toArray, List.map_cons, List.map_nil, hd, hs, h1]
    exact hK _ _ (h v' w' h2)
theorem owns_below {w w' : World} (hb : Below w.heap.size w w') {b : Nat} {e : TypeId} {size : Nat} {v : Value} {n : Nat} {xs : List Value} (ho : w.ownsRow b e size v n xs) : w'.ownsRow b e size v n xs := by
  refine ⟨ho.1, ?_⟩
  rcases ho.2 with h0 | ⟨g, cap, cur, rfl, h1, hg, hr⟩
  · exact .inl h0
  · exact .inr ⟨g, cap, cur, rfl, h1, (hb.block g (Array.getElem?_eq_some_iff.1 hg).1).trans hg, hr⟩
theorem own_app {t e : TypeId} {z : Value} {k by_ : Nat} (hU : Tryz.prog.underlying t = some (.slice e)) (hI : (Tryz.prog.info? e).map (fun i => (i.zero, i.size, i.bytes)) = some (some z, k, by_)) (hz : z.cells.size = k) (hk : 0 < k)
    {w : World} {b : Nat} {v : Value} {n : Nat} {xs : List Value} (hown : w.ownsRow b e k v n xs) {a : Nat} {news : List Value} {t' : TypeId} {fr : Nat × Nat} (hc : w.heap[a]? = some (.cells news.toArray t' fr)) (hl : news.length = k) (h1 : ∀ u ∈ news, u.oneCell' = true) (hn : (n + 1) * by_ ≤ 140737488355328) (hn2 : n + 1 ≤ 140737488355328) (hb : b ≤ w.heap.size) :
    ∀ ty, ∃ v' w', (Builtin.append_ #[t, t] ty #[v, .slice (some ⟨a, 0, none⟩) 1 1]).run Tryz.prog w = .ok v' w' ∧ (w'.ownsRow b e k v' (n + 1) (xs ++ news) ∧ w.grownBy w' v.ownBlock ∧ (v'.ownBlock = v.ownBlock ∨ v'.ownBlock = some w.heap.size)) := fun ty => by
  obtain ⟨i, i1, hz'⟩ := Option.map_eq_some_iff.1 hI
  simp only [Prod.mk.injEq] at hz'
  obtain ⟨i2, i3, i4⟩ := hz'
  obtain ⟨v', w', hr, h2, h3, _, h5⟩ := run_append_own_at (P := Tryz.prog) w b t ty e i z k by_ hU i1 i2 i3 i4 hz hk v n xs hown ⟨a, 0, none⟩ 1 1 news (by rw [hl, Nat.one_mul]) (fun j u hu => by
    rw [add_mid, Nat.zero_add, cell_of_row _ _ _ _ _ _ hc, ← hu]; simp) h1 (by unfold maxLen; omega) hn hb
  exact ⟨v', w', hr, h2, h3, h5⟩
/-- what grows at its own list leaves all below it -/
theorem grown_below {w w' W : World} {q b : Nat} {e : TypeId} {k n : Nat} {v : Value} {xs : List Value} (hb : Below q W w) (ho : w.ownsRow b e k v n xs) (hq : q ≤ b) (hq2 : q ≤ w.heap.size) (hg : w.grownBy w' v.ownBlock) : Below q W w' :=
  hb.grown hg hq2 (fun k hk => by have := (ho.lt k hk).1; omega)
theorem parts_str : (Tryz.prog.info? 9).map (fun i => (i.zero, i.size, i.bytes)) = some (some (.string ⟨#[]⟩), 1, 16) := by kernel_rfl
theorem parts_int : (Tryz.prog.info? 3).map (fun i => (i.zero, i.size, i.bytes)) = some (some (.int .i64 0), 1, 8) := by kernel_rfl
theorem own_nil0 (w : World) (b : Nat) (e : TypeId) (k : Nat) : w.ownsRow b e k (.slice none 0 0) 0 [] := ⟨by simp, .inl ⟨rfl, rfl⟩⟩
/-- texts that are read -/
def RdS (w : World) (v : Value) (L : List ByteArray) : Prop :=
  ∃ a cap, v = .slice a L.length cap ∧ ∀ j, j < L.length → ∃ b o, a = some ⟨b, o, none⟩ ∧ w.cell? ⟨b, o + j, none⟩ = some (.string (L.getD j ⟨#[]⟩))
theorem RdS.below {w W : World} {v : Value} {L : List ByteArray} (h : RdS w v L) (hb : Below w.heap.size w W) : RdS W v L := by
  obtain ⟨a, c, e, h3⟩ := h
  refine ⟨a, c, e, fun j hj => ?_⟩
  obtain ⟨b, o, g1, g2⟩ := h3 j hj
  exact ⟨b, o, g1, cell_below hb g2⟩
theorem own_cell {w : World} {b : Nat} {e : TypeId} {k n : Nat} {a : Option Addr} {m cap : Nat} {xs : List Value} (h : w.ownsRow b e k (.slice a m cap) n xs) : m = n ∧ ∀ j u, xs[j]? = some u → ∃ g, a = some ⟨g, 0, none⟩ ∧ b ≤ g ∧ w.cell? ⟨g, j, none⟩ = some u := by
  rcases h.2 with ⟨e', e2⟩ | ⟨g, cap', cur, e', hb, hg, h1, h2, h3, h4⟩
  · injection e' with e1 e3 e4
    refine ⟨by omega, fun j u hu => ?_⟩
    have := h.1
    have := (List.getElem?_eq_some_iff.1 hu).1
    subst e2
    omega
  · injection e' with e1 e2 e3
    refine ⟨e2, fun j u hu => ⟨g, e1, hb, ?_⟩⟩
    have hj := (List.getElem?_eq_some_iff.1 hu).1
    rw [h.1] at hj
    rw [cell_of_row _ _ _ _ _ _ hg, ← hu, ← h4, List.getElem?_take_of_lt hj]
    simp
theorem own_slice' {w : World} {b : Nat} {e : TypeId} {k n : Nat} {v : Value} {xs : List Value} (h : w.ownsRow b e k v n xs) : ∃ a cap, v = .slice a n cap := by
  rcases h.2 with ⟨rfl, rfl⟩ | ⟨g, cap, cur, rfl, _⟩
  · exact ⟨_, _, rfl⟩
  · exact ⟨_, _, rfl⟩
theorem own_strs {w : World} {b : Nat} {v : Value} {L : List ByteArray} (h : w.ownsRow b 9 1 v L.length (L.map Value.string)) : RdS w v L := by
  obtain ⟨a, cap, rfl⟩ := own_slice' h
  refine ⟨a, cap, rfl, fun j hj => ?_⟩
  obtain ⟨g, e, _, hc⟩ := (own_cell h).2 j (.string (L.getD j ⟨#[]⟩)) (by simp [List.getD, hj])
  exact ⟨g, 0, e, by rw [Nat.zero_add]; exact hc⟩
theorem own_ints {w : World} {b : Nat} {v : Value} {C : List Int} (h : w.ownsRow b 3 1 v C.length (C.map (Value.int .i64))) (hC : C.length ≤ 140737488355328) : RdN w v C := by
  rcases h.2 with ⟨rfl, e2⟩ | ⟨g, cap', cur, rfl, hb, hg, h1, h2, h3, h4⟩
  · obtain rfl : C = [] := List.length_eq_zero_iff.1 e2
    exact ⟨none, 0, rfl, ⟨Nat.le_refl _, fun _ => rfl⟩, hC, .inl rfl⟩
  · refine ⟨_, cap', rfl, ⟨h1, fun h => nomatch h⟩, hC, .inr ⟨g, 0, rfl, fun j u hu => ?_⟩⟩
    obtain ⟨g', e, _, hc⟩ := (own_cell h).2 j u hu
    injection e with e
    injection e with e
    subst e
    rw [Nat.zero_add]
    exact hc
end Go.Proofs.YtchnkpgkckadmabGreatDoor
namespace Go.Proofs.YtchnkpgkckadmabGreatDoor
set_option linter.unusedSimpArgs false
set_option linter.unusedVariables false
set_option maxRecDepth 100000
open Go.ChangeShapes Go.WideShapes Go.ChangeAt Go.RowKit Go.Pin Go.Pat Go.Deep
def wr1 (l : List UInt8) (s : Int) (ts : List Int) : List UInt8 := if ts.length = 0 then l else l ++ toL (row s ts)
/-- what is written behind the name, ahead of the messages -/
def wrB (p : Pt) : Nat → List UInt8
  | 0 => [58, 10]
  | 1 => wr1 [58, 10] 0 p.b0
  | _ => wr1 (wr1 [58, 10] 0 p.b0) 1 p.b1
def wrD (p : Pt) : List UInt8 := if 0 < p.b0.length + p.b1.length then wrB p 2 ++ [32, 32, 46, 46, 46, 10] else wrB p 2
def wrN (p : Pt) : Nat → List UInt8
  | 0 => wrD p
  | i + 1 => wrN p i ++ toL (row (p.ln.getD i (0, [])).1 (p.ln.getD i (0, [])).2)
def wrt (p : Pt) : List UInt8 := wrN p p.ln.length
theorem bef_wr1 (s : ByteArray) (l a : List UInt8) (h : toL s = a ++ l) (side : Int) (ts : List Int) : toL (bef s side ts) = a ++ wr1 l side ts := by
  unfold bef wr1
  split
  · exact h
  · rw [toL_app, h, List.append_assoc]
theorem txt_wrt (p : Pt) : toL (txt p) = toL p.nm ++ wrt p := by
  have h0 : toL (txH p) = toL p.nm ++ wrD p := by
    have e := bef_wr1 _ _ _ (bef_wr1 (p.nm ++ ⟨#[58, 10]⟩) [58, 10] (toL p.nm) (toL_app _ _) 0 p.b0) 1 p.b1
    unfold txH dots wrD
    split
    · rw [toL_app, e, List.append_assoc]
      rfl
    · exact e
  have hN : ∀ i, toL (txN p i) = toL p.nm ++ wrN p i := fun i => by
    induction i with
    | zero => exact h0
    | succ i ih => rw [txN, wrN, toL_app, ih, List.append_assoc]
  exact hN _
theorem wrB_len (p : Pt) (h0 : p.b0.length ≤ 2) (h1 : p.b1.length ≤ 2) : ∀ j, (wrB p j).length ≤ 100 := by
  have k : ∀ (l : List UInt8) (s : Int) (ts : List Int), (wr1 l s ts).length ≤ l.length + (6 + 5 * ts.length) := fun l s ts => by
    unfold wr1
    split
    · omega
    · have := row_size s ts
      rw [List.length_append, toL_len]
      omega
  intro j
  match j with
  | 0 => simp [wrB]
  | 1 => have := k [58, 10] 0 p.b0; simp only [wrB]; simp at this ⊢; omega
  | j + 2 =>
    have e1 := k [58, 10] 0 p.b0
    have e2 := k (wr1 [58, 10] 0 p.b0) 1 p.b1
    simp only [wrB]
    simp at e1
    omega
theorem wrN_len (p : Pt) (h : shaped p = true) : ∀ i, i ≤ p.ln.length → (wrN p i).length ≤ 200 + 126 * i := by
  obtain ⟨h0, h1, _, hn, hl⟩ := shaped_all h
  intro i
  induction i with
  | zero =>
    intro _
    have := wrB_len p h0 h1 2
    show (wrD p).length ≤ _
    unfold wrD
    split
    · rw [List.length_append]; simp; omega
    · omega
  | succ i ih =>
    intro hi
    have hmem : p.ln.getD i (0, []) ∈ p.ln := by
      rw [show p.ln.getD i (0, []) = p.ln[i] by simp [List.getD, show i < p.ln.length by omega]]
      exact List.getElem_mem _
    have h2 := (hl _ hmem).2.2.1
    have := row_size (p.ln.getD i (0, [])).1 (p.ln.getD i (0, [])).2
    rw [wrN, List.length_append, toL_len]
    have := ih (by omega)
    omega
theorem BD.below {B b : Nat} {l : List UInt8} {w w' : World} (h : BD B b l w) (hb : Below w.heap.size w w') : BD B b l w' := by
  have k : ∀ p, Lib.BuilderAt 98 5 B b p (Lib.byteCells l) w → Lib.BuilderAt 98 5 B b p (Lib.byteCells l) w' := by
    rintro p ⟨h1, v, h2, h3, h4⟩
    refine ⟨h1, v, (hb.block b (Array.getElem?_eq_some_iff.1 h2).1).trans h2, ?_, h4⟩
    exact owns_below hb h3
  rcases h with h | h
  · exact .inl (k _ h)
  · exact .inr (k _ h)
end Go.Proofs.YtchnkpgkckadmabGreatDoor
namespace Go.Proofs.YtchnkpgkckadmabGreatDoor
set_option linter.unusedSimpArgs false
set_option linter.unusedVariables false
set_option maxRecDepth 100000
open Go.ChangeShapes Go.WideShapes Go.ChangeAt Go.RowKit Go.Pin Go.Pat Go.Deep
end Go.Proofs.YtchnkpgkckadmabGreatDoor
