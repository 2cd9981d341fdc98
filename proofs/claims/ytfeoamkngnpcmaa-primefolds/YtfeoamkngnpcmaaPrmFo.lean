import Derived.Test.YtfeoamkngnpcmaaPrmFo6
import Derived.Test.YtfeoamkngnpcmaaPrmFo8
namespace Go.Proofs.Ytfeoamkngnpcmaa
set_option linter.unusedSimpArgs false
set_option linter.unusedVariables false
open Go.ChangeShapes Go.WideShapes Go.ChangeAt Go.RowKit Go.Pin Go.Prm
theorem Bs.setk {w0 W : World} {ks bx : List (Nat × List Int)} {g : Nat} {l : List Int} (h : Bs w0 ((g, l) :: ks) bx W) (hg : w0.heap.size ≤ g) (hbx : ∀ p ∈ bx, p.1 ≠ g) (hks : ∀ p ∈ ks, p.1 ≠ g) (i : Nat) (v : Int) : Bs w0 ((g, l.set i v) :: ks) bx (W.setCell ⟨g, i, none⟩ (.int .u8 v)) := by
  refine ⟨h.old.setCell hg _, fun p hp => ?_, fun p hp => row_other (h.rows p hp) (hbx p hp) _⟩
  rcases List.mem_cons.1 hp with rfl | hp
  · exact rowB_set (h.keys (_, l) (by simp)) i v
  · exact row_other (h.keys p (by simp [hp])) (hks p hp) _
theorem fold_nb {x : List Int} (hx : Key17 x) : (nb (x.set 16 (x.getD 16 0 % 4)) % P + nb ((List.replicate 17 (0 : Int)).set 0 (x.getD 16 0 / 4)) % P * (nb (rw17 5 0 0) % P) % P) % P = nb x % P := by
  have y := byte_at hx.bd 16
  have h4 : nb ((List.replicate 17 (0 : Int)).set 0 (x.getD 16 0 / 4)) = (x.getD 16 0 / 4).toNat := by
    rw [nb_sum (set_bd (by decide) 0 (by omega))]
    rw [show (List.replicate 17 (0 : Int)).set 0 (x.getD 16 0 / 4) = rw17 (x.getD 16 0 / 4) 0 0 from rfl]
    simp [rw17]
  have h5 : nb (rw17 5 0 0) % P = 5 := by decide +kernel
  have hl : nb (x.set 16 (x.getD 16 0 % 4)) + (x.getD 16 0 / 4).toNat * 1361129467683753853853498429727072845824 = nb x := by
    rw [nb_sum (set_bd hx.bd 16 (by omega)), nb_sum hx.bd]
    have e : ∀ i, i < 16 → (x.set 16 (x.getD 16 0 % 4)).getD i 0 = x.getD i 0 := fun i hi => by
      rw [List.getD_eq_getElem?_getD, List.getElem?_set_ne (by omega), List.getD_eq_getElem?_getD]
    have e16 : (x.set 16 (x.getD 16 0 % 4)).getD 16 0 = x.getD 16 0 % 4 := by
      rw [List.getD_eq_getElem?_getD, List.getElem?_set_self (by rw [hx.len]; omega)]; rfl
    rw [e 0 (by decide), e 1 (by decide), e 2 (by decide), e 3 (by decide), e 4 (by decide), e 5 (by decide), e 6 (by decide), e 7 (by decide), e 8 (by decide), e 9 (by decide), e 10 (by decide), e 11 (by decide), e 12 (by decide), e 13 (by decide), e 14 (by decide), e 15 (by decide), e16]
    have hz : ((x.getD 16 0 % 4).toNat : Int) = x.getD 16 0 % 4 := by omega
    have hq : ((x.getD 16 0 / 4).toNat : Int) = x.getD 16 0 / 4 := by omega
    have hw : ((x.getD 16 0).toNat : Int) = x.getD 16 0 := by omega
    have hk : (x.getD 16 0 % 4).toNat + (x.getD 16 0 / 4).toNat * 4 = (x.getD 16 0).toNat := by omega
    generalize (x.getD 16 0 % 4).toNat = z1 at *
    generalize (x.getD 16 0 / 4).toNat = z2 at *
    generalize (x.getD 16 0).toNat = z3 at *
    clear hz hq hw
    omega
  rw [h4, h5]
  have hs : (x.getD 16 0 / 4).toNat < 64 := by omega
  generalize (x.getD 16 0 / 4).toNat = q at *
  generalize nb (x.set 16 (x.getD 16 0 % 4)) = a at *
  generalize nb x = c at *
  unfold P at *
  omega
set_option maxRecDepth 100000 in
set_option maxHeartbeats 20000000 in
theorem folds_walk (x : List Int) (hx : Key17 x) (w : World) :
    Calls Try.prog 8 #[.agg (VI .u8 x)] w fun e w' => e = .returned (.bool true) ∧ Below w.heap.size w w' := by
  have HX : Hid (Key17 x) := hx
  have y := byte_at hx.bd 16
  have HLO' : Hid (Key17 (x.set 16 (x.getD 16 0 % 4))) := ⟨by rw [List.length_set]; exact hx.len, set_bd hx.bd 16 (by omega)⟩
  have HHI' : Hid (Key17 ((List.replicate 17 (0 : Int)).set 0 (x.getD 16 0 / 4))) := ⟨rfl, set_bd (by decide) 0 (by omega)⟩
  have HFV' : Hid (Key17 (rw17 5 0 0)) := rw17_key (by decide) (by decide) (by decide) (by decide) (by decide) (by decide)
  have hnb := fold_nb hx
  have hs := bs_start1 w x
  obtain ⟨W0, hW0⟩ : ∃ W, w.alloc (.cells (VI .u8 x) 39) = W := ⟨_, rfl⟩
  rw [hW0] at hs
  have X0 : Hid (Bs w [(w.heap.size, x)] [] W0) := hs
  obtain ⟨v, hv⟩ : ∃ v, x.getD 16 0 = v := ⟨_, rfl⟩
  have HV : Hid (x.getD 16 0 = v) := hv
  rw [hv] at y hnb HLO' HHI'
  obtain ⟨y0, y1⟩ := y
  obtain ⟨lo, hlo⟩ : ∃ lo, x.set 16 (v % 4) = lo := ⟨_, rfl⟩
  obtain ⟨hi, hhi⟩ : ∃ hi, (List.replicate 17 (0 : Int)).set 0 (v / 4) = hi := ⟨_, rfl⟩
  obtain ⟨fv, hfv⟩ : ∃ fv, rw17 5 0 0 = fv := ⟨_, rfl⟩
  rw [hlo] at HLO' hnb
  rw [hhi] at HHI' hnb
  rw [hfv] at HFV' hnb
  have HLO : Hid (Key17 lo) := HLO'
  have HHI : Hid (Key17 hi) := HHI'
  have HFV : Hid (Key17 fv) := HFV'
  have HNB : Hid ((nb lo % P + nb hi % P * (nb fv % P) % P) % P = nb x % P) := hnb
  have ELO : Hid (x.set 16 (v % 4) = lo) := hlo
  have EHI : Hid ((List.replicate 17 (0 : Int)).set 0 (v / 4) = hi) := hhi
  have EFV : Hid (rw17 5 0 0 = fv) := hfv
  clear hs hx hv hlo hhi hfv hnb HLO' HHI' HFV'
  go_enter Try.func8, Try.ntmps8
  go_wp2_with (first | (with_reducible refine at_list ?_; first | (refine wpList_load_row rfl 39 (.tmp 1) rfl w.heap.size rfl 39 (VI .u8 x) (0, 0) _ (X0.out.key (by simp)) Try.underlying39 rfl HX.out.info ?_) | (refine hold_store 39 (.tmp 3) (.tmp 8) rfl ?_)))
  refine store_row_new rfl 39 (.tmp 3) (.tmp 8) rfl W0.heap.size (VI .u8 x) rfl rfl rfl 39 (VI .u8 (List.replicate 17 0)) HX.out.info (by rw [VI_size, VI_size, HX.out.len]; rfl) (VI_one _ _) ?_
  have hN := X0.out.newk x
  obtain ⟨g3, hg⟩ : ∃ g, W0.heap.size = g := ⟨_, rfl⟩
  obtain ⟨f1, f2, f3⟩ := X0.out.fresh hg
  obtain ⟨W1, hW1⟩ : ∃ W, W0.alloc (.cells (VI .u8 x) 39) = W := ⟨_, rfl⟩
  rw [hW1, hg] at hN
  rw [hW1]
  simp only [hg]
  have c16 := rowB_cell (hN.key (g := g3) (x := x) (by simp)) (i := 16) (by rw [HX.out.len]; omega)
  have z16 : W1.frozen? ⟨g3, 16, none⟩ = false := frozen_of_row W1 _ _ _ _ (hN.key (g := g3) (x := x) (by simp))
  rw [HV.out] at c16
  have hS := hN.setk f1 f2 f3 16 (v % 4)
  rw [ELO.out] at hS
  have XS : Hid (Bs w [(g3, lo), (w.heap.size, x)] [] (W1.setCell ⟨g3, 16, none⟩ (.int .u8 (v % 4)))) := hS
  clear hN hS hW1 hg f1 f2 f3 X0 hW0
  go_upto_region 3 with fail
  obtain ⟨W2, hW2⟩ : ∃ W, W1.setCell ⟨g3, 16, none⟩ (.int .u8 (v % 4)) = W := ⟨_, rfl⟩
  rw [hW2] at XS ⊢
  clear hW2 c16 z16
  have hN := XS.out.newk (List.replicate 17 0)
  obtain ⟨g4, hg⟩ : ∃ g, W2.heap.size = g := ⟨_, rfl⟩
  obtain ⟨f1, f2, f3⟩ := XS.out.fresh hg
  obtain ⟨W3, hW3⟩ : ∃ W, W2.alloc (.cells (VI .u8 (List.replicate 17 0)) 39) = W := ⟨_, rfl⟩
  have hW3' : W2.alloc (.cells #[.int .u8 0, .int .u8 0, .int .u8 0, .int .u8 0, .int .u8 0, .int .u8 0, .int .u8 0, .int .u8 0, .int .u8 0, .int .u8 0, .int .u8 0, .int .u8 0, .int .u8 0, .int .u8 0, .int .u8 0, .int .u8 0, .int .u8 0] 39) = W3 := hW3
  rw [hW3, hg] at hN
  have c16 := rowB_cell (hN.key (g := w.heap.size) (x := x) (by simp)) (i := 16) (by rw [HX.out.len]; omega)
  rw [HV.out] at c16
  have c0 := rowB_cell (hN.key (g := g4) (x := List.replicate 17 0) (by simp)) (i := 0) (by simp)
  have z0 : W3.frozen? ⟨g4, 0, none⟩ = false := frozen_of_row W3 _ _ _ _ (hN.key (g := g4) (x := List.replicate 17 0) (by simp))
  have hS := hN.setk f1 f2 f3 0 (v / 4)
  rw [EHI.out] at hS
  have XT : Hid (Bs w [(g4, hi), (g3, lo), (w.heap.size, x)] [] (W3.setCell ⟨g4, 0, none⟩ (.int .u8 (v / 4)))) := hS
  clear hN hS hW3 f1 f2 f3 XS
  go_upto_region 5 with fail
  obtain ⟨W4, hW4⟩ : ∃ W, W3.setCell ⟨g4, 0, none⟩ (.int .u8 (v / 4)) = W := ⟨_, rfl⟩
  rw [hW4] at XT ⊢
  clear hW4 c16 c0 z0 hW3' hg
  go_wp2_with (with_reducible refine at_list ?_; refine hold_store 39 (.tmp 5) (.tmp 17) rfl ?_)
  refine store_row_new rfl 39 (.tmp 5) (.tmp 17) rfl W4.heap.size (VI .u8 (rw17 5 0 0)) rfl rfl rfl 39 (VI .u8 (List.replicate 17 0)) info17 rfl (VI_one _ _) ?_
  have hN := XT.out.newk (rw17 5 0 0)
  obtain ⟨g5, hg⟩ : ∃ g, W4.heap.size = g := ⟨_, rfl⟩
  obtain ⟨W5, hW5⟩ : ∃ W, W4.alloc (.cells (VI .u8 (rw17 5 0 0)) 39) = W := ⟨_, rfl⟩
  rw [hW5, hg] at hN
  rw [EFV.out] at hN
  rw [hW5]
  simp only [hg]
  have X5 : Hid (Bs w [(g5, fv), (g4, hi), (g3, lo), (w.heap.size, x)] [] W5) := hN
  clear hN hW5 hg XT
  go_wp2_with (fail)
  obtain ⟨e19x0, e19x1, e19x2, e19x3, e19x4, l19, n19, C19⟩ := block_f (b := lo) HLO.out
  have L19 : Hid (Lim [e19x0, e19x1, e19x2, e19x3, e19x4]) := l19
  have N19 : Hid _ := n19
  clear l19 n19
  obtain ⟨e21x0, e21x1, e21x2, e21x3, e21x4, l21, n21, C21⟩ := block_f (b := hi) HHI.out
  have L21 : Hid (Lim [e21x0, e21x1, e21x2, e21x3, e21x4]) := l21
  have N21 : Hid _ := n21
  clear l21 n21
  obtain ⟨e23x0, e23x1, e23x2, e23x3, e23x4, l23, n23, C23⟩ := block_f (b := fv) HFV.out
  have L23 : Hid (Lim [e23x0, e23x1, e23x2, e23x3, e23x4]) := l23
  have N23 : Hid _ := n23
  clear l23 n23
  obtain ⟨e24x0, e24x1, e24x2, e24x3, e24x4, l24, n24, C24⟩ := mul_f L21.out L23.out
  have L24 : Hid (Lim [e24x0, e24x1, e24x2, e24x3, e24x4]) := l24
  have N24 : Hid _ := n24
  clear l24 n24
  obtain ⟨e25x0, e25x1, e25x2, e25x3, e25x4, l25, n25, C25⟩ := add_f L19.out L24.out
  have L25 : Hid (Lim [e25x0, e25x1, e25x2, e25x3, e25x4]) := l25
  have N25 : Hid _ := n25
  clear l25 n25
  refine wp_as (c' := rgF6) (by kernel_rfl) ?_
  refine folds_r6  HFV HHI HLO HX C19 C21 C23 C24 C25 X5.out (fun _ _ d _ _ h => by cases d <;> exact h) ?_
  intro g6 W1 hN
  have X1 : Hid (Bs w [(g5, fv), (g4, hi), (g3, lo), (w.heap.size, x)] [(g6, [e25x0, e25x1, e25x2, e25x3, e25x4])] W1) := hN
  clear hN X5
  go_wp2_with (with_reducible refine at_list ?_; first | (refine wpList_load_row rfl 39 (.tmp 1) rfl (w.heap.size) rfl 39 (VI .u8 x) (0, 0) _ (X1.out.key (g := w.heap.size) (x := x) (by simp)) Try.underlying39 rfl (HX.out).info ?_))
  obtain ⟨e27x0, e27x1, e27x2, e27x3, e27x4, l27, n27, C27⟩ := block_f (b := x) HX.out
  have L27 : Hid (Lim [e27x0, e27x1, e27x2, e27x3, e27x4]) := l27
  have N27 : Hid _ := n27
  clear l27 n27
  refine (C27.out _).mono ?_
  rintro e W2 ⟨rfl, hb⟩
  have X2 : Hid (Bs w [(g5, fv), (g4, hi), (g3, lo), (w.heap.size, x)] [(g6, [e25x0, e25x1, e25x2, e25x3, e25x4])] W2) := X1.out.below hb
  clear hb X1
  go_wp2_with (fail)
  obtain ⟨W3, hW⟩ : ∃ W, (W2.alloc (.cells #[.int .u64 e27x0, .int .u64 e27x1, .int .u64 e27x2, .int .u64 e27x3, .int .u64 e27x4] 29)) = W := ⟨_, rfl⟩
  have hN := (X2.out.new [e27x0, e27x1, e27x2, e27x3, e27x4])
  rw [show (W2.alloc (.cells (VI .u64 [e27x0, e27x1, e27x2, e27x3, e27x4]) 29)) = W3 from hW] at hN
  rw [hW]
  clear hW
  obtain ⟨g7, hg⟩ : ∃ g, W2.heap.size = g := ⟨_, rfl⟩
  rw [hg] at hN
  try simp only [hg]
  clear hg
  have X3 : Hid (Bs w [(g5, fv), (g4, hi), (g3, lo), (w.heap.size, x)] [(g7, [e27x0, e27x1, e27x2, e27x3, e27x4]), (g6, [e25x0, e25x1, e25x2, e25x3, e25x4])] W3) := hN
  clear hN X2
  obtain ⟨ka, hka⟩ : ∃ k, bts (num [e25x0, e25x1, e25x2, e25x3, e25x4]) = k := ⟨_, rfl⟩
  have C29 := bytes_f (L25.out) hka
  have lka : ka.length = 17 := by rw [← hka]; exact bts_len _
  have Qka : ∀ w, (Op.equalIn 10000 39 (.agg (VI .u8 ka)) (.agg (VI .u8 ka))).run Try.prog w = .ok true w := fun w => eq17t lka w
  have HQka : Hid (∀ w, (Op.equalIn 10000 39 (.agg (VI .u8 ka)) (.agg (VI .u8 ka))).run Try.prog w = .ok true w) := Qka
  have Hka : Hid (bts (num [e25x0, e25x1, e25x2, e25x3, e25x4]) = ka) := hka
  clear hka lka Qka
  have C31 := bytes_f (L27.out) (b := ka) (by rw [← Hka.out, N27.out, N25.out, N24.out, N19.out, N21.out, N23.out]; exact congrArg bts HNB.out.symm)
  have C34 : Hid (∀ w, Calls Try.prog 12 #[] w fun e w' => e = .returned (.bool true) ∧ Below w.heap.size w w') := known_any
  refine wp_as (c' := rgF8) (by kernel_rfl) ?_
  refine folds_r8  (X3.out.row (g := g6) (x := [e25x0, e25x1, e25x2, e25x3, e25x4]) (by simp)) C29 (X3.out.row (g := g7) (x := [e27x0, e27x1, e27x2, e27x3, e27x4]) (by simp)) C31 HQka.out C34 ?_
  intro W4 hb
  have X4 : Hid (Bs w [(g5, fv), (g4, hi), (g3, lo), (w.heap.size, x)] [(g7, [e27x0, e27x1, e27x2, e27x3, e27x4]), (g6, [e25x0, e25x1, e25x2, e25x3, e25x4])] W4) := X3.out.below hb
  clear hb X3
  go_wp2
  go_ret
  exact ⟨rfl, X4.out.old⟩
end Go.Proofs.Ytfeoamkngnpcmaa
