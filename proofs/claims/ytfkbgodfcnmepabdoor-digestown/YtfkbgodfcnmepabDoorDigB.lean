import Derived.Test.YtfkbgodfcnmepabDoorDigA
namespace Go.Proofs.YtfkbgodfcnmepabDoor
set_option linter.unusedSimpArgs false
set_option linter.unusedVariables false
open Go.ChangeShapes Go.WideShapes Go.ChangeAt Go.RowKit Go.Pin Go.Str Go.Dig
set_option maxRecDepth 100000 in
theorem rotr16 (x : Nat) (hx : x < 4294967296) (w : World) :
    Calls Tryd.prog 48 #[.int .u32 (x : Int), .int .i64 (-16)] w fun e w' => e = .returned (.int .u32 ((rot x 16 : Nat) : Int)) ∧ w' = w := by
  have hb : bits BinOp.and IntKind.u64 (IntKind.u64.wrap (-16)) 31 = 16 := by decide
  have hs := rot_or x 16 (by decide) hx
  have ho : bits BinOp.or IntKind.u32 (((x * 2 ^ 16 % 4294967296 : Nat)) : Int) (((x / 2 ^ (32 - 16) : Nat)) : Int) = ((rot x 16 : Nat) : Int) := by
    rw [u32_or_nat _ _ (Nat.mod_lt _ (by decide)) (Nat.lt_of_le_of_lt (Nat.div_le_self _ _) hx), hs]
  have HO : Hid _ := ho
  clear hs ho
  go_enter Tryd.func48, Tryd.ntmps48
  go_wp2
  go_ret
  refine ⟨ret_int (Eq.trans ?_ HO.out), rfl⟩
  congr 1
  all_goals (try simp [IntKind.wrap_u32'])
set_option maxRecDepth 100000 in
theorem rotr12 (x : Nat) (hx : x < 4294967296) (w : World) :
    Calls Tryd.prog 48 #[.int .u32 (x : Int), .int .i64 (-12)] w fun e w' => e = .returned (.int .u32 ((rot x 20 : Nat) : Int)) ∧ w' = w := by
  have hb : bits BinOp.and IntKind.u64 (IntKind.u64.wrap (-12)) 31 = 20 := by decide
  have hs := rot_or x 20 (by decide) hx
  have ho : bits BinOp.or IntKind.u32 (((x * 2 ^ 20 % 4294967296 : Nat)) : Int) (((x / 2 ^ (32 - 20) : Nat)) : Int) = ((rot x 20 : Nat) : Int) := by
    rw [u32_or_nat _ _ (Nat.mod_lt _ (by decide)) (Nat.lt_of_le_of_lt (Nat.div_le_self _ _) hx), hs]
  have HO : Hid _ := ho
  clear hs ho
  go_enter Tryd.func48, Tryd.ntmps48
  go_wp2
  go_ret
  refine ⟨ret_int (Eq.trans ?_ HO.out), rfl⟩
  congr 1
  all_goals (try simp [IntKind.wrap_u32'])
set_option maxRecDepth 100000 in
theorem rotr8 (x : Nat) (hx : x < 4294967296) (w : World) :
    Calls Tryd.prog 48 #[.int .u32 (x : Int), .int .i64 (-8)] w fun e w' => e = .returned (.int .u32 ((rot x 24 : Nat) : Int)) ∧ w' = w := by
  have hb : bits BinOp.and IntKind.u64 (IntKind.u64.wrap (-8)) 31 = 24 := by decide
  have hs := rot_or x 24 (by decide) hx
  have ho : bits BinOp.or IntKind.u32 (((x * 2 ^ 24 % 4294967296 : Nat)) : Int) (((x / 2 ^ (32 - 24) : Nat)) : Int) = ((rot x 24 : Nat) : Int) := by
    rw [u32_or_nat _ _ (Nat.mod_lt _ (by decide)) (Nat.lt_of_le_of_lt (Nat.div_le_self _ _) hx), hs]
  have HO : Hid _ := ho
  clear hs ho
  go_enter Tryd.func48, Tryd.ntmps48
  go_wp2
  go_ret
  refine ⟨ret_int (Eq.trans ?_ HO.out), rfl⟩
  congr 1
  all_goals (try simp [IntKind.wrap_u32'])
set_option maxRecDepth 100000 in
theorem rotr7 (x : Nat) (hx : x < 4294967296) (w : World) :
    Calls Tryd.prog 48 #[.int .u32 (x : Int), .int .i64 (-7)] w fun e w' => e = .returned (.int .u32 ((rot x 25 : Nat) : Int)) ∧ w' = w := by
  have hb : bits BinOp.and IntKind.u64 (IntKind.u64.wrap (-7)) 31 = 25 := by decide
  have hs := rot_or x 25 (by decide) hx
  have ho : bits BinOp.or IntKind.u32 (((x * 2 ^ 25 % 4294967296 : Nat)) : Int) (((x / 2 ^ (32 - 25) : Nat)) : Int) = ((rot x 25 : Nat) : Int) := by
    rw [u32_or_nat _ _ (Nat.mod_lt _ (by decide)) (Nat.lt_of_le_of_lt (Nat.div_le_self _ _) hx), hs]
  have HO : Hid _ := ho
  clear hs ho
  go_enter Tryd.func48, Tryd.ntmps48
  go_wp2
  go_ret
  refine ⟨ret_int (Eq.trans ?_ HO.out), rfl⟩
  congr 1
  all_goals (try simp [IntKind.wrap_u32'])
end Go.Proofs.YtfkbgodfcnmepabDoor
