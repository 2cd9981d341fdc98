import Derived.Test.YtlffamcifahbjabFldC
namespace Go.Proofs.Ytlffamcifahbjab
set_option linter.unusedSimpArgs false
open Go.ChangeShapes Go.WideShapes Go.ChangeAt Go.RowKit Go.Pin Go.Fld
/-- two words -/
abbrev wd (s : Int) : Array Value := #[.int .u64 (s / 18446744073709551616), .int .u64 (s % 18446744073709551616)]
theorem plus_math (s p : Int) (s0 : 0 ≤ s) (p0 : 0 ≤ p) (h : s + p < 340282366920938463463374607431768211456) :
    (p / 18446744073709551616 + s / 18446744073709551616 + (p % 18446744073709551616 + s % 18446744073709551616 + 0) / 18446744073709551616) % 18446744073709551616 = (s + p) / 18446744073709551616 ∧
    (p % 18446744073709551616 + s % 18446744073709551616 + 0) % 18446744073709551616 = (s + p) % 18446744073709551616 := by omega
set_option maxHeartbeats 1000000 in
theorem plus_core (x y sh sl ph pl u v t z : Int) (w : World)
    (HX : Hid (∀ w, Calls Try.prog 41 #[.int .u64 x, .int .u64 y] w fun e w' => e = .returned (.tuple #[.int .u64 ph, .int .u64 pl]) ∧ w' = w))
    (r1 : ∀ w, (callFunc 42 #[.int .u64 pl, .int .u64 sl, .int .u64 0]).run Try.prog w = .ok (.value (.tuple #[.int .u64 u, .int .u64 v])) w)
    (r2 : ∀ w, (callFunc 42 #[.int .u64 ph, .int .u64 sh, .int .u64 v]).run Try.prog w = .ok (.value (.tuple #[.int .u64 t, .int .u64 z])) w) :
    Calls Try.prog 37 #[.agg #[.int .u64 sh, .int .u64 sl], .int .u64 x, .int .u64 y] w fun e w' => e = .returned (.agg #[.int .u64 t, .int .u64 u]) ∧ Below w.heap.size w w' := by
  go_enter Try.func37, Try.ntmps37
  go_wp2_with (go_at_call 41; refine (HX.out _).mono ?_; rintro e w' ⟨rfl, rfl⟩)
  exact bodyPost_ret (v := .agg #[.int .u64 t, .int .u64 u]) (by simp [results, Try.results37, go_sem]) rfl ⟨rfl, ((Below.refl _ _).alloc (Nat.le_refl _) _).alloc (by simp) _⟩
theorem plus_any (s x y : Int) (w : World) (s0 : 0 ≤ s) (x0 : 0 ≤ x) (x1 : x < 18446744073709551616) (y0 : 0 ≤ y) (y1 : y < 18446744073709551616) (h : s + x * y < 340282366920938463463374607431768211456) :
    Calls Try.prog 37 #[.agg (wd s), .int .u64 x, .int .u64 y] w fun e w' => e = .returned (.agg (wd (s + x * y))) ∧ Below w.heap.size w w' := by
  have p0 := Int.mul_nonneg x0 y0
  obtain ⟨m1, m2⟩ := plus_math s (x * y) s0 p0 h
  have hc := plus_core x y (s / 18446744073709551616) (s % 18446744073709551616) (x * y / 18446744073709551616) (x * y % 18446744073709551616) _ _ _ _ w (fun w => mul64_any x y w x0 x1 y0 y1)
    (fun w => add64_run (x * y % 18446744073709551616) (s % 18446744073709551616) 0 (by omega) (by omega) (by omega) (by omega) w)
    (fun w => add64_run (x * y / 18446744073709551616) (s / 18446744073709551616) ((x * y % 18446744073709551616 + s % 18446744073709551616 + 0) / 18446744073709551616) (by omega) (by omega) (by omega) (by omega) w)
  rw [m1, m2] at hc
  exact hc
end Go.Proofs.Ytlffamcifahbjab
