import Derived.Test.YtefnlaookmpbhaaStrA
namespace Go.Proofs.Ytefnlaookmpbhaa
set_option linter.unusedSimpArgs false
open Go.ChangeShapes Go.WideShapes Go.ChangeAt Go.RowKit Go.Pin Go.Str
set_option maxRecDepth 100000 in
theorem rotl16 (x : Nat) (hx : x < 4294967296) (w : World) :
    Calls Try.prog 51 #[.int .u32 (x : Int), .int .i64 16] w fun e w' => e = .returned (.int .u32 ((rot x 16 : Nat) : Int)) ∧ w' = w := by
  have hb : bits BinOp.and IntKind.u64 16 31 = 16 := by decide
  have hs := rot_or x 16 (by decide) hx
  have ho : bits BinOp.or IntKind.u32 (((x * 2 ^ 16 % 4294967296 : Nat)) : Int) (((x / 2 ^ (32 - 16) : Nat)) : Int) = ((rot x 16 : Nat) : Int) := by
    rw [u32_or_nat _ _ (Nat.mod_lt _ (by decide)) (Nat.lt_of_le_of_lt (Nat.div_le_self _ _) hx), hs]
  have HO : Hid _ := ho
  clear hs ho
  go_enter Try.func51, Try.ntmps51
  go_wp2
  go_ret
  refine ⟨ret_int (Eq.trans ?_ HO.out), rfl⟩
  congr 1
  all_goals (try simp [IntKind.wrap_u32'])
set_option maxRecDepth 100000 in
theorem rotl12 (x : Nat) (hx : x < 4294967296) (w : World) :
    Calls Try.prog 51 #[.int .u32 (x : Int), .int .i64 12] w fun e w' => e = .returned (.int .u32 ((rot x 12 : Nat) : Int)) ∧ w' = w := by
  have hb : bits BinOp.and IntKind.u64 12 31 = 12 := by decide
  have hs := rot_or x 12 (by decide) hx
  have ho : bits BinOp.or IntKind.u32 (((x * 2 ^ 12 % 4294967296 : Nat)) : Int) (((x / 2 ^ (32 - 12) : Nat)) : Int) = ((rot x 12 : Nat) : Int) := by
    rw [u32_or_nat _ _ (Nat.mod_lt _ (by decide)) (Nat.lt_of_le_of_lt (Nat.div_le_self _ _) hx), hs]
  have HO : Hid _ := ho
  clear hs ho
  go_enter Try.func51, Try.ntmps51
  go_wp2
  go_ret
  refine ⟨ret_int (Eq.trans ?_ HO.out), rfl⟩
  congr 1
  all_goals (try simp [IntKind.wrap_u32'])
set_option maxRecDepth 100000 in
theorem rotl8 (x : Nat) (hx : x < 4294967296) (w : World) :
    Calls Try.prog 51 #[.int .u32 (x : Int), .int .i64 8] w fun e w' => e = .returned (.int .u32 ((rot x 8 : Nat) : Int)) ∧ w' = w := by
  have hb : bits BinOp.and IntKind.u64 8 31 = 8 := by decide
  have hs := rot_or x 8 (by decide) hx
  have ho : bits BinOp.or IntKind.u32 (((x * 2 ^ 8 % 4294967296 : Nat)) : Int) (((x / 2 ^ (32 - 8) : Nat)) : Int) = ((rot x 8 : Nat) : Int) := by
    rw [u32_or_nat _ _ (Nat.mod_lt _ (by decide)) (Nat.lt_of_le_of_lt (Nat.div_le_self _ _) hx), hs]
  have HO : Hid _ := ho
  clear hs ho
  go_enter Try.func51, Try.ntmps51
  go_wp2
  go_ret
  refine ⟨ret_int (Eq.trans ?_ HO.out), rfl⟩
  congr 1
  all_goals (try simp [IntKind.wrap_u32'])
set_option maxRecDepth 100000 in
theorem rotl7 (x : Nat) (hx : x < 4294967296) (w : World) :
    Calls Try.prog 51 #[.int .u32 (x : Int), .int .i64 7] w fun e w' => e = .returned (.int .u32 ((rot x 7 : Nat) : Int)) ∧ w' = w := by
  have hb : bits BinOp.and IntKind.u64 7 31 = 7 := by decide
  have hs := rot_or x 7 (by decide) hx
  have ho : bits BinOp.or IntKind.u32 (((x * 2 ^ 7 % 4294967296 : Nat)) : Int) (((x / 2 ^ (32 - 7) : Nat)) : Int) = ((rot x 7 : Nat) : Int) := by
    rw [u32_or_nat _ _ (Nat.mod_lt _ (by decide)) (Nat.lt_of_le_of_lt (Nat.div_le_self _ _) hx), hs]
  have HO : Hid _ := ho
  clear hs ho
  go_enter Try.func51, Try.ntmps51
  go_wp2
  go_ret
  refine ⟨ret_int (Eq.trans ?_ HO.out), rfl⟩
  congr 1
  all_goals (try simp [IntKind.wrap_u32'])
end Go.Proofs.Ytefnlaookmpbhaa
