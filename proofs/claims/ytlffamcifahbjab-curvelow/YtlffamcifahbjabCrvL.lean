import Derived.Test.YtlffamcifahbjabCrvT
import Derived.Test.YtlffamcifahbjabCrvY
import Derived.Test.YtlffamcifahbjabEdwL
namespace Go.Proofs.Ytlffamcifahbjab
set_option linter.unusedVariables false
set_option linter.unusedSimpArgs false
open Go.ChangeShapes Go.WideShapes Go.ChangeAt Go.RowKit Go.Pin Go.Fld Go.Prm Go.Edw
theorem clk_even1 (k : List Int) (hk : Key32 k) : kbit (clk k) 1 = 0 := by
  have h0 := byte_in hk (i := 0) (by decide)
  have : (clk k).getD 0 0 = k.getD 0 0 - k.getD 0 0 % 8 := by
    unfold clk
    rw [getD_set_ne _ _ _ _ (by decide), getD_set_eq _ _ _ (by rw [hk.len]; decide)]
  unfold kbit
  rw [show 1 / 8 = 0 from rfl, this]
  have e : (k.getD 0 0 - k.getD 0 0 % 8).toNat = 8 * (k.getD 0 0 / 8).toNat := by omega
  rw [e]
  simp; omega
theorem bl_four (k : List Int) (hk : Key32 k) : ∃ n, bval 0 (bl (kbit (clk k)) 255) = 2 * (2 * n) := by
  refine ⟨bval 0 (bl (kbit (clk k)) 253), ?_⟩
  rw [bl_even k hk]
  have h : bl (kbit (clk k)) 254 = bl (kbit (clk k)) 253 ++ [decide (kbit (clk k) (254 - 253) % 2 = 1)] := bl.eq_2 _ _
  rw [h, bval_snoc, show 254 - 253 = 1 from rfl, clk_even1 k hk, decide_eq_false (by decide), if_neg (by decide), Nat.add_zero]
theorem shn_f (k v : List Int) : toF (shn k v) = fsh fi c0 (toF (ux v)) (bl (kbit (clk k)) 255) := lend_f _ _ (ux_lt v)
theorem shn_of_zero (k v : List Int) (h : toF (shn k v) = 0) : shn k v = 0 := eq_of_toF (shn_lt _ _) (by decide) (h.trans toF_zero.symm)
theorem low_zero (k u : List Int) (hu : ux u = 0) : shn k u = 0 := by
  apply shn_of_zero
  rw [shn_f, hu, toF_zero, bl_cons _ 254]
  exact fsh_zero fi_zero _ _
theorem low_four {D e : FP} (Q : Par fi D e c0) (k u : List Int) (hk : Key32 k) (hX : toF (ux u) = e) : shn k u = 0 := by
  obtain ⟨n, hn⟩ := bl_four k hk
  apply shn_of_zero
  rw [shn_f, hX]
  exact low_gen Q fi_zero _ n hn
theorem low_one (k u : List Int) (hk : Key32 k) (hu : ux u = 1) : shn k u = 0 := low_four (par1 fldP c1_ne nsq) k u hk (by rw [hu, toF_one])
theorem low_last (k u : List Int) (hk : Key32 k) (hu : ux u = P - 1) : shn k u = 0 := low_four (par2 fldP c0_ne nsq) k u hk (by
  rw [hu]
  have h : toF (P - 1) + toF 1 = 0 := (toF_add (P - 1) 1).symm.trans (Fin.ext (by rw [toF_val, zero_v]; decide))
  rw [toF_one] at h
  exact neg_of h)
/-- 2^255 - 20 -/
def pm1 : List Int := ((List.replicate 32 (255 : Int)).set 0 236).set 31 127
theorem pm1_ux : ux pm1 = P - 1 := by decide +kernel
theorem kk0_ux : ux (kk 0) = 0 := by decide +kernel
theorem kk1_ux : ux (kk 1) = 1 := by decide +kernel
theorem pm1_key : Key32 pm1 := ⟨by decide, by decide⟩
theorem bts0 : bts 0 = kk 0 := by decide +kernel
end Go.Proofs.Ytlffamcifahbjab
