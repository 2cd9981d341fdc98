import Derived.Test.YtfkbgodfcnmepabDoorDwD
namespace Go.Proofs.YtfkbgodfcnmepabDoor
set_option linter.unusedSimpArgs false
set_option linter.unusedVariables false
open Go.ChangeShapes Go.WideShapes Go.ChangeAt Go.RowKit Go.Pin Go.Str Go.Dig
set_option maxRecDepth 100000 in
set_option maxHeartbeats 8000000 in
theorem own_walk (z : Int) (key : List Int) (hkb : Byt key) (a : Option Addr) (n cap : Nat) (W : World) (hR : RdB W (.slice a n cap) key) (D : List Int) (hDb : Byt D) (ad : Option Addr) (m cd : Nat) (hR2 : RdB W (.slice ad m cd) D) (hB : Beg W) (hE : ∃ a, W.cell? ⟨0, 0, none⟩ = some (.iface 89 (.pointer (some a)))) :
    Calls Tryd.prog 3 #[.int .i64 z, .slice a n cap, .slice ad m cd] W fun e w' => e = .returned (.bool true) ∧ Below W.heap.size W w' := by
  obtain ⟨q, hq⟩ : ∃ q, W.heap.size = q := ⟨_, rfl⟩
  have hkn := (rdb_at hq hR).1
  have hDn := (rdb_at hq hR2).1
  have hk : ∀ bx, Src q W bx (.slice a n cap) key := fun bx => by rw [← hq]; exact hR.src bx
  have hd : ∀ bx, Src q W bx (.slice ad m cd) D := fun bx => by rw [← hq]; exact hR2.src bx
  rw [hq]
  by_cases hm : m ≤ 131072
  · by_cases hn : n ≤ 131072
    · by_cases h1 : z < 1 ∨ 32 < z ∨ 32 < n
      · exact own_bad z n h1 hn m hm a cap ad cd W q hq hB hE
      · obtain ⟨s, rfl⟩ : ∃ s : Nat, z = (s : Int) := ⟨z.toNat, by omega⟩
        exact own_main s n (by omega) (by omega) key D hkb hkn hDb m hDn hm a cap ad cd W q hq hk hd hB hE
    · have b0 : ¬ (131072 : Int) < (m : Int) := by omega
      have b1 : (131072 : Int) < (n : Int) := by omega
      have b1' : 131072 < n := by omega
      have HB0 : Hid (Below q W W) := Below.refl _ _
      clear hk hkn hR hd hDn hR2 hB hE
      go_enter Tryd.func3, Tryd.ntmps3
      go_wp2
      go_ret
      exact ⟨rfl, HB0.out⟩
  · have b0 : (131072 : Int) < (m : Int) := by omega
    have b0' : 131072 < m := by omega
    have HB0 : Hid (Below q W W) := Below.refl _ _
    clear hk hkn hR hd hDn hR2 hB hE
    go_enter Tryd.func3, Tryd.ntmps3
    go_wp2
    go_ret
    exact ⟨rfl, HB0.out⟩
end Go.Proofs.YtfkbgodfcnmepabDoor
