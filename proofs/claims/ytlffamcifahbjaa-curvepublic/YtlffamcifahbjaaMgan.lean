import Init
import Derived.Test.YtlffamcifahbjaaMgam
import Derived.Test.YtlffamcifahbjaaMgah
namespace Go.Proofs.Ytlffamcifahbjaa
set_option linter.unusedSimpArgs false
open Go.ChangeShapes Go.WideShapes Go.ChangeAt Go.RowKit Go.Pin Go.Fld
/-- one round of Power -/
def pst (n x : Nat) (b : Int) : Nat := if b = 0 then x * x % P else x * x % P * n % P
def pwr (n : Nat) (b : List Int) : Nat := b.foldl (pst n) 1
theorem pst_lt (n x : Nat) (b : Int) : pst n x b < P := by unfold pst; split <;> exact Nat.mod_lt _ (by decide)
theorem pwr_snoc (n : Nat) (b : List Int) (x : Int) : pwr n (b ++ [x]) = pst n (pwr n b) x := by simp [pwr]
theorem pwr_lt (n : Nat) (b : List Int) : pwr n b < P := by
  rcases List.eq_nil_or_concat b with rfl | ⟨l, x, rfl⟩
  · show 1 < P; decide
  · rw [List.concat_eq_append, pwr_snoc]; exact pst_lt _ _ _
theorem pwr_take (n : Nat) (b : List Int) (k : Nat) (hk : k < b.length) : pwr n (b.take (k + 1)) = pst n (pwr n (b.take k)) (b.getD k 0) := by
  rw [List.take_succ_eq_append_getElem hk, pwr_snoc, List.getD_eq_getElem?_getD, List.getElem?_eq_getElem hk]; rfl
structure QW (N X : Nat) (w : World) (a x : List Int) (wr : World) : Prop where
  old : Below N w wr
  sz : N + 2 ≤ X ∧ X < wr.heap.size
  ha : rowI wr N a 65
  hr : rowI wr (N + 1) (List.replicate 16 0) 65
  hx : rowI wr X x 65
theorem QW.below {N X : Nat} {w wr w' : World} {a x : List Int} (h : QW N X w a x wr) (hb : Below wr.heap.size wr w') : QW N X w a x w' :=
  have hs := h.sz
  ⟨h.old.trans (hb.mono (by omega)), ⟨hs.1, Nat.lt_of_lt_of_le hs.2 hb.size⟩, (hb.block _ (by omega)).trans h.ha, (hb.block _ (by omega)).trans h.hr, (hb.block _ hs.2).trans h.hx⟩
theorem QW.row {N X : Nat} {w wr : World} {a x : List Int} (h : QW N X w a x wr) (y : List Int) : QW N X w a y (wr.setRow X (VI .i64 y)) :=
  have b := but_setRow wr X (VI .i64 y)
  have hs := h.sz
  ⟨h.old.trans (b.below (fun k hk => by omega)), ⟨hs.1, by rw [b.size]; exact hs.2⟩, (b.block _ (by omega)).trans h.ha, (b.block _ (by omega)).trans h.hr, setRow_heap _ _ _ _ _ _ h.hx⟩
theorem sz16 {a b : List Int} (ha : a.length = 16) (hb : b.length = 16) : (VI .i64 a).size = (VI .i64 b).size := by rw [VI_size, VI_size, ha, hb]
set_option maxRecDepth 100000 in
set_option maxHeartbeats 8000000 in
theorem rpower_any (n : Nat) (hn : n < P) (b : List Int) (hbl : b.length ≤ 100000) (g cap : Nat) (w : World) (hg : g < w.heap.size) (hc : ∀ j, j < b.length → w.cell? ⟨g, j, none⟩ = some (.int .i64 (b.getD j 0))) :
    Calls Try.prog 54 #[.agg (VI .i64 (dg n)), .slice (some ⟨g, 0, none⟩) b.length cap] w fun e w' => e = .returned (.agg (VI .i64 (dg (pwr n b)))) ∧ Below w.heap.size w w' := by
  obtain ⟨W, hW⟩ : ∃ W, (w.alloc (.cells (VI .i64 (dg n)) 65)).alloc (.cells (VI .i64 (List.replicate 16 0)) 65) = W := ⟨_, rfl⟩
  have hr : rowI W w.heap.size (dg n) 65 ∧ rowI W (w.heap.size + 1) (List.replicate 16 0) 65 ∧ Below w.heap.size w W ∧ W.heap.size = w.heap.size + 2 := by
    rw [← hW]
    refine ⟨?_, ?_, ((Below.refl _ _).alloc (Nat.le_refl _) _).alloc (by simp) _, by simp [size_alloc]⟩
    all_goals simp only [rowI, heap_alloc_any, size_alloc]
    · rw [if_neg (by omega), if_pos trivial]
    · rw [if_pos trivial]
  have hW' : (w.alloc (.cells (VI .i64 (dg n)) 65)).alloc (.cells #[.int .i64 0, .int .i64 0, .int .i64 0, .int .i64 0, .int .i64 0, .int .i64 0, .int .i64 0, .int .i64 0, .int .i64 0, .int .i64 0, .int .i64 0, .int .i64 0, .int .i64 0, .int .i64 0, .int .i64 0, .int .i64 0] 65) = W := hW
  have HR : Hid (rowI W w.heap.size (dg n) 65 ∧ rowI W (w.heap.size + 1) (List.replicate 16 0) 65 ∧ Below w.heap.size w W ∧ W.heap.size = w.heap.size + 2) := hr
  have HN : Hid (n < P) := hn
  have HC : Hid (∀ j, j < b.length → w.cell? ⟨g, j, none⟩ = some (.int .i64 (b.getD j 0))) := hc
  have CS : Hid (∀ w, Calls Try.prog 31 #[.int .i64 1] w fun e w' => e = .returned (.agg (VI .i64 (dg 1))) ∧ Below w.heap.size w w') := fun w => rsmall_any 1 (by decide) w
  clear hr hW hn hc
  go_enter Try.func54, Try.ntmps54
  go_wp2_with (first | (go_at_call 31; refine (CS.out W).mono ?_; rintro e w1 ⟨rfl, hb1⟩; have HB1 : Hid (Below W.heap.size W w1) := hb1; clear hb1) | (with_reducible refine at_list ?_; refine hold_store 65 (.tmp 5) (.tmp 7) rfl ?_))
  refine store_row_new rfl 65 (.tmp 5) (.tmp 7) rfl w1.heap.size (VI .i64 (dg 1)) rfl rfl rfl 65 (VI .i64 (List.replicate 16 0)) (infoN16 (dg_len 1)) (sz16 (by simp) (dg_len 1)) (VI_one _ _) ?_
  have hq : QW w.heap.size w1.heap.size w (dg n) (dg (pwr n (b.take 0))) (w1.alloc (.cells (VI .i64 (dg 1)) 65)) := by
    have hs := HR.out.2.2.2
    have h1 := HB1.out.size
    refine ⟨(HR.out.2.2.1.trans (HB1.out.mono HR.out.2.2.1.size)).alloc (by omega) _, ⟨by omega, by simp [size_alloc]⟩, ?_, ?_, ?_⟩
    · simp only [rowI, heap_alloc_any]; rw [if_neg (by omega)]; exact (HB1.out.block _ (by omega)).trans HR.out.1
    · simp only [rowI, heap_alloc_any]; rw [if_neg (by omega)]; exact (HB1.out.block _ (by omega)).trans HR.out.2.1
    · simp only [rowI, heap_alloc_any, if_true]; rfl
  obtain ⟨X, hX⟩ : ∃ X, w1.heap.size = X := ⟨_, rfl⟩
  rw [hX] at hq
  simp only [hX]
  obtain ⟨W2, hW2⟩ : ∃ W2, w1.alloc (.cells (VI .i64 (dg 1)) 65) = W2 := ⟨_, rfl⟩
  rw [hW2] at hq ⊢
  have HQ : Hid (QW w.heap.size X w (dg n) (dg (pwr n (b.take 0))) W2) := hq
  clear hq hX hW2 HB1 HR hW'
  go_wp2
  go_loopw [6] (fun i w' => ∃ k : Nat, k ≤ b.length ∧ i = .int .i64 k ∧ QW w.heap.size X w (dg n) (dg (pwr n (b.take k))) w') (fun i _ => b.length - (intOf i).toNat)
  case atStart => exact ⟨0, Nat.zero_le _, rfl, HQ.out⟩
  case round =>
    clear HQ
    obtain ⟨k, hk, rfl, hp⟩ := hrel
    by_cases hlt : k < b.length
    · have hpt := pwr_take n b k hlt
      have hxl := pwr_lt n (b.take k)
      obtain ⟨x, hx⟩ : ∃ x, pwr n (b.take k) = x := ⟨_, rfl⟩
      rw [hx] at hpt hxl hp
      have HP : Hid (QW w.heap.size X w (dg n) (dg x) wr) := hp
      have CM1 : Hid (∀ w, Calls Try.prog 35 #[.agg (VI .i64 (dg x)), .agg (VI .i64 (dg x))] w fun e w' => e = .returned (.agg (VI .i64 (dg (x * x % P)))) ∧ Below w.heap.size w w') := fun w => rmul_any x x hxl hxl w
      have CM2 : Hid (∀ w, Calls Try.prog 35 #[.agg (VI .i64 (dg (x * x % P))), .agg (VI .i64 (dg n))] w fun e w' => e = .returned (.agg (VI .i64 (dg (x * x % P * n % P)))) ∧ Below w.heap.size w w') := fun w => rmul_any (x * x % P) n (Nat.mod_lt _ (by decide)) HN.out w
      have HCk : Hid (∀ Y, Below w.heap.size w Y → Y.cell? ⟨g, k, none⟩ = some (.int .i64 (b.getD k 0))) := fun Y hY => (hY.cell (p := ⟨g, k, none⟩) hg).trans (HC.out k hlt)
      have HPT : Hid (pwr n (b.take (k + 1)) = pst n x (b.getD k 0)) := hpt
      clear hpt hp hxl hx HC
      generalize b.getD k 0 = c at *
      generalize hq1 : x * x % P = q1 at *
      generalize hq2 : q1 * n % P = q2 at *
      have HQ1 : Hid (x * x % P = q1) := hq1
      have HQ2 : Hid (q1 * n % P = q2) := hq2
      clear hq1 hq2
      by_cases hc0 : c = 0
      · have hcd : decide (c = 0) = true := by simpa using hc0
        go_wp2_with (first | (go_at_call 35; refine (CM1.out _).mono ?_; rintro e w3 ⟨rfl, hb3⟩; have H3 : Hid (QW w.heap.size X w (dg n) (dg x) w3) := HP.out.below hb3; clear hb3; have H4 : Hid (QW w.heap.size X w (dg n) (dg q1) (w3.setRow X (VI .i64 (dg q1)))) := H3.out.row _; have hck := HCk.out _ H4.out.old) | (with_reducible refine at_list ?_; first | (refine wpList_load_row rfl 65 (.tmp 5) rfl X rfl 65 (VI .i64 (dg x)) (0, 0) _ HP.out.hx Try.underlying65 rfl (infoN16 (dg_len x)) ?_) | (refine wpList_store_row rfl 65 (.tmp 5) (.tmp 16) rfl X (VI .i64 (dg q1)) rfl rfl 65 (VI .i64 (dg x)) H3.out.hx (infoN16 (dg_len q1)) (sz16 (dg_len x) (dg_len q1)) (VI_one _ _) ?_)))
        go_roundw
        case rel => exact ⟨k + 1, by omega, by go_num, by rw [HPT.out, pst, if_pos hc0, HQ1.out]; exact H4.out⟩
        case measure => simp [intOf]; omega
      · have hcd : decide (c = 0) = false := by simpa using hc0
        go_wp2_with (first | (go_at_call 35; refine (CM1.out _).mono ?_; rintro e w3 ⟨rfl, hb3⟩; have H3 : Hid (QW w.heap.size X w (dg n) (dg x) w3) := HP.out.below hb3; clear hb3 CM1; have H4 : Hid (QW w.heap.size X w (dg n) (dg q1) (w3.setRow X (VI .i64 (dg q1)))) := H3.out.row _; have hck := HCk.out _ H4.out.old) | (go_at_call 35; refine (CM2.out _).mono ?_; rintro e w5 ⟨rfl, hb5⟩; have H5 : Hid (QW w.heap.size X w (dg n) (dg q1) w5) := H4.out.below hb5; clear hb5; have H6 : Hid (QW w.heap.size X w (dg n) (dg q2) (w5.setRow X (VI .i64 (dg q2)))) := H5.out.row _) | (with_reducible refine at_list ?_; first | (refine wpList_load_row rfl 65 (.tmp 5) rfl X rfl 65 (VI .i64 (dg x)) (0, 0) _ HP.out.hx Try.underlying65 rfl (infoN16 (dg_len x)) ?_) | (refine wpList_store_row rfl 65 (.tmp 5) (.tmp 16) rfl X (VI .i64 (dg q1)) rfl rfl 65 (VI .i64 (dg x)) H3.out.hx (infoN16 (dg_len q1)) (sz16 (dg_len x) (dg_len q1)) (VI_one _ _) ?_) | (refine wpList_load_row rfl 65 (.tmp 5) rfl X rfl 65 (VI .i64 (dg q1)) (0, 0) _ H4.out.hx Try.underlying65 rfl (infoN16 (dg_len q1)) ?_) | (refine wpList_load_row rfl 65 (.tmp 2) rfl w.heap.size rfl 65 (VI .i64 (dg n)) (0, 0) _ H4.out.ha Try.underlying65 rfl (infoN16 (dg_len n)) ?_) | (refine wpList_store_row rfl 65 (.tmp 5) (.tmp 24) rfl X (VI .i64 (dg q2)) rfl rfl 65 (VI .i64 (dg q1)) H5.out.hx (infoN16 (dg_len q2)) (sz16 (dg_len q1) (dg_len q2)) (VI_one _ _) ?_)))
        go_roundw
        case rel => exact ⟨k + 1, by omega, by go_num, by rw [HPT.out, pst, if_neg hc0, HQ1.out, HQ2.out]; exact H6.out⟩
        case measure => simp [intOf]; omega
    · have hk' : k = b.length := by omega
      subst hk'
      rw [List.take_length] at hp
      have HP : Hid (QW w.heap.size X w (dg n) (dg (pwr n b)) wr) := hp
      generalize hres : dg (pwr n b) = res at *
      have HRES : Hid (dg (pwr n b) = res) := hres
      have HRL : Hid (res.length = 16) := by
        have : res.length = 16 := by rw [← hres]; exact dg_len _
        exact this
      clear hp hres HC
      go_wp2_with (with_reducible refine at_list ?_; first | (refine wpList_load_row rfl 65 (.tmp 5) rfl X rfl 65 (VI .i64 res) (0, 0) _ HP.out.hx Try.underlying65 rfl (infoN16 HRL.out) ?_) | (refine wpList_store_row rfl 65 (.tmp 4) (.tmp 25) rfl (w.heap.size + 1) (VI .i64 res) rfl rfl 65 (VI .i64 (List.replicate 16 0)) HP.out.hr (infoN16 HRL.out) (sz16 (by simp) HRL.out) (VI_one _ _) ?_))
      refine bodyPost_ret (v := .agg (VI .i64 res)) ?_ rfl ⟨by first | rfl | rw [HRES.out], below_setRow HP.out.old _ (by omega) _⟩
      exact results_cell_row (P := Try.prog) (fn := Try.f54) (p := 4) (ty := 65) rfl _ _ (w.heap.size + 1) 65 (VI .i64 res) (0, 0) _ rfl (setRow_heap _ _ _ _ 65 _ HP.out.hr) Try.underlying65 rfl (infoN16 HRL.out)
end Go.Proofs.Ytlffamcifahbjaa
namespace Go.Prm
/-- prime -/
structure Pr (r : Nat) : Prop where
  two : 2 ≤ r
  div : ∀ d, d ∣ r → d = 1 ∨ d = r
theorem Pr.euclid {r a b : Nat} (h : Pr r) (hd : r ∣ a * b) : r ∣ a ∨ r ∣ b := by
  rcases h.div (Nat.gcd r a) (Nat.gcd_dvd_left r a) with g | g
  · exact .inr (Nat.Coprime.dvd_of_dvd_mul_left g hd)
  · exact .inl (g ▸ Nat.gcd_dvd_right r a)
/-! binomials -/
def ch : Nat → Nat → Nat
  | _, 0 => 1
  | 0, _ + 1 => 0
  | n + 1, k + 1 => ch n k + ch n (k + 1)
theorem ch_zero (n : Nat) : ch n 0 = 1 := by cases n <;> rfl
theorem ch_big : ∀ n k, n < k → ch n k = 0
  | _, 0, h => by omega
  | 0, k + 1, _ => rfl
  | n + 1, k + 1, h => by rw [ch, ch_big n k (by omega), ch_big n (k + 1) (by omega)]
theorem ch_self : ∀ n, ch n n = 1
  | 0 => rfl
  | n + 1 => by rw [ch, ch_self n, ch_big n (n + 1) (by omega)]
theorem ch_mul : ∀ n k, (k + 1) * ch (n + 1) (k + 1) = (n + 1) * ch n k
  | 0, 0 => rfl
  | 0, k + 1 => by rw [ch_big 1 (k + 2) (by omega), ch_big 0 (k + 1) (by omega)]; rfl
  | n + 1, 0 => by
    have h := ch_mul n 0
    have e : ch (n + 1 + 1) (0 + 1) = ch (n + 1) 0 + ch (n + 1) (0 + 1) := rfl
    rw [ch_zero] at h
    rw [e, ch_zero]
    omega
  | n + 1, k + 1 => by
    have h1 := ch_mul n k
    have h2 := ch_mul n (k + 1)
    have e : ch (n + 1) (k + 1) = ch n k + ch n (k + 1) := rfl
    have e2 : ch (n + 2) (k + 2) = ch (n + 1) (k + 1) + ch (n + 1) (k + 2) := rfl
    rw [e2]
    have : (k + 2) * ch (n + 1) (k + 1) = (k + 1) * ch (n + 1) (k + 1) + ch (n + 1) (k + 1) := by rw [Nat.add_mul (k + 1) 1]; omega
    rw [Nat.mul_add, this, h1, h2, e]
    grind
def S (a n : Nat) : Nat → Nat
  | 0 => 0
  | m + 1 => S a n m + ch n m * a ^ m
theorem S_succ (a n : Nat) : ∀ m, S a (n + 1) (m + 1) = S a n (m + 1) + a * S a n m
  | 0 => by simp [S, ch_zero]
  | m + 1 => by
    have ih := S_succ a n m
    rw [S, ih]
    have e : ch (n + 1) (m + 1) = ch n m + ch n (m + 1) := rfl
    rw [e]
    simp only [S]
    grind
theorem S_pow (a : Nat) : ∀ n, (a + 1) ^ n = S a n (n + 1)
  | 0 => by simp [S, ch]
  | n + 1 => by
    rw [Nat.pow_succ, S_pow a n, S_succ]
    have : S a n (n + 2) = S a n (n + 1) := by rw [S, ch_big n (n + 1) (by omega)]; simp
    rw [this]
    grind
theorem Pr.ch_dvd {r : Nat} (h : Pr r) {k : Nat} (h0 : 0 < k) (h1 : k < r) : r ∣ ch r k := by
  obtain ⟨n, rfl⟩ : ∃ n, r = n + 1 := ⟨r - 1, by omega⟩
  obtain ⟨j, rfl⟩ : ∃ j, k = j + 1 := ⟨k - 1, by omega⟩
  have := ch_mul n j
  rcases h.euclid (a := j + 1) (b := ch (n + 1) (j + 1)) ⟨_, this⟩ with g | g
  · exact absurd (Nat.le_of_dvd (by omega) g) (by omega)
  · exact g
theorem Pr.S_mod {r : Nat} (h : Pr r) (a : Nat) : ∀ m, m < r → S a r (m + 1) % r = 1 % r
  | 0, _ => by simp [S, ch_zero]
  | m + 1, hm => by
    have ih := h.S_mod a m (by omega)
    rw [S, Nat.add_mod, ih]
    have hd : ch r (m + 1) * a ^ (m + 1) % r = 0 := Nat.mod_eq_zero_of_dvd (Nat.dvd_trans (h.ch_dvd (by omega) hm) (Nat.dvd_mul_right _ _))
    rw [hd]; simp
theorem Pr.fermat {r : Nat} (h : Pr r) : ∀ a, a ^ r % r = a % r
  | 0 => by
    have := h.two
    rw [Nat.zero_pow (by omega)]
  | a + 1 => by
    have ih := h.fermat a
    have h2 := h.two
    have hs := h.S_mod a (r - 1) (by omega)
    rw [show r - 1 + 1 = r by omega] at hs
    rw [S_pow, S, ch_self, Nat.one_mul, Nat.add_mod, hs, ih, ← Nat.add_mod, Nat.add_comm]
theorem Pr.little {r : Nat} (h : Pr r) {a : Nat} (ha : a % r ≠ 0) : a ^ (r - 1) % r = 1 := by
  have h2 := h.two
  have hf := h.fermat a
  have hpos : 0 < a := by
    rcases Nat.eq_zero_or_pos a with e | e
    · rw [e] at ha; simp at ha
    · exact e
  have h1 : 1 ≤ a ^ (r - 1) := Nat.pow_pos hpos
  have e : a ^ r = a * (a ^ (r - 1) - 1) + a := by
    have : a ^ r = a * a ^ (r - 1) := by rw [← Nat.pow_succ']; congr 1; omega
    rw [this, Nat.mul_sub, Nat.mul_one]
    have : a ≤ a * a ^ (r - 1) := Nat.le_mul_of_pos_right a h1
    omega
  have hd : r ∣ a * (a ^ (r - 1) - 1) := by
    rw [e] at hf
    have h3 : (a * (a ^ (r - 1) - 1) + a) % r = (0 + a) % r := by rw [hf, Nat.zero_add]
    have h4 := Nat.sub_mod_eq_zero_of_mod_eq h3
    rw [Nat.zero_add, Nat.add_sub_cancel] at h4
    exact Nat.dvd_of_mod_eq_zero h4
  rcases h.euclid hd with g | g
  · exact absurd (Nat.mod_eq_zero_of_dvd g) ha
  · obtain ⟨c, hc⟩ := g
    have : a ^ (r - 1) = r * c + 1 := by omega
    rw [this, Nat.mul_add_mod]
    exact Nat.mod_eq_of_lt (by omega)
theorem pow_gcd (a r : Nat) (hr : 1 < r) : ∀ m n, a ^ m % r = 1 → a ^ n % r = 1 → a ^ Nat.gcd m n % r = 1 := by
  intro m n
  induction m, n using Nat.gcd.induction with
  | H0 n => intro _ h; rw [Nat.gcd_zero_left]; exact h
  | H1 m n hm ih =>
    intro h1 h2
    rw [Nat.gcd_rec]
    apply ih _ h1
    have e : a ^ n = (a ^ m) ^ (n / m) * a ^ (n % m) := by rw [← Nat.pow_mul, ← Nat.pow_add, Nat.div_add_mod]
    rw [e, Nat.mul_mod, Nat.pow_mod, h1, Nat.one_pow, Nat.mod_eq_of_lt hr, Nat.one_mul, Nat.mod_mod] at h2
    exact h2
theorem least_div : ∀ n, 2 ≤ n → ∃ r, Pr r ∧ r ∣ n ∧ (r = n ∨ r * r ≤ n) := by
  intro n hn
  have key : ∀ m, m ≤ n → (∀ d, 2 ≤ d → d < m → ¬ d ∣ n) ∨ ∃ r, 2 ≤ r ∧ r ∣ n ∧ ∀ d, 2 ≤ d → d < r → ¬ d ∣ n := by
    intro m
    induction m with
    | zero => intro _; exact .inl (fun d _ h => by omega)
    | succ m ih =>
      intro hm
      rcases ih (by omega) with g | g
      · by_cases h : 2 ≤ m ∧ m ∣ n
        · exact .inr ⟨m, h.1, h.2, g⟩
        · refine .inl (fun d h2 hd hdn => ?_)
          by_cases e : d = m
          · subst e; exact h ⟨h2, hdn⟩
          · exact g d h2 (by omega) hdn
      · exact .inr g
  have : ∃ r, 2 ≤ r ∧ r ∣ n ∧ ∀ d, 2 ≤ d → d < r → ¬ d ∣ n := by
    rcases key n (Nat.le_refl _) with g | g
    · exact ⟨n, hn, Nat.dvd_refl n, g⟩
    · exact g
  obtain ⟨r, h2, hd, hmin⟩ := this
  refine ⟨r, ⟨h2, fun d hdr => ?_⟩, hd, ?_⟩
  · by_cases h1 : 2 ≤ d
    · have := Nat.le_of_dvd (by omega) hdr
      by_cases e : d = r
      · exact .inr e
      · exact absurd (Nat.dvd_trans hdr hd) (hmin d h1 (by omega))
    · have : 0 < d := Nat.pos_of_dvd_of_pos hdr (by omega)
      exact .inl (by omega)
  · obtain ⟨s, hs⟩ := hd
    by_cases e : r = n
    · exact .inl e
    · right
      have hs2 : 2 ≤ s := by
        rcases Nat.lt_or_ge s 2 with g | g
        · have : s = 0 ∨ s = 1 := by omega
          rcases this with rfl | rfl
          · omega
          · omega
        · exact g
      have : r ≤ s := by
        rcases Nat.lt_or_ge s r with g | g
        · exact absurd ⟨r, by rw [hs, Nat.mul_comm]⟩ (hmin s hs2 g)
        · exact g
      rw [hs]
      exact Nat.mul_le_mul_left r this
/-- a prime q that divides N - 1, and a witness: q divides r - 1 for each prime r of N -/
theorem pock {N q a m r : Nat} (hq : Pr q) (hN : N - 1 = q * m) (h1 : a ^ (N - 1) % N = 1) (hg : Nat.gcd (a ^ m % N + (N - 1)) N = 1) (hN2 : 2 ≤ N) (hr : Pr r) (hrN : r ∣ N) : q ∣ r - 1 := by
  have r2 := hr.two
  have one : ∀ x, x % N = 1 → x % r = 1 := fun x hx => by
    have := Nat.mod_mod_of_dvd x hrN
    rw [hx] at this
    rw [← this]
    exact Nat.mod_eq_of_lt (by omega)
  have ha : a ^ (N - 1) % r = 1 := one _ h1
  have ha0 : a % r ≠ 0 := by
    intro e
    have : a ^ (N - 1) % r = 0 := by
      rw [Nat.pow_mod, e, Nat.zero_pow (by omega), Nat.zero_mod]
    omega
  have hl := hr.little ha0
  have hgcd := pow_gcd a r (by omega) (N - 1) (r - 1) ha hl
  rcases hq.div (Nat.gcd q (Nat.gcd (N - 1) (r - 1))) (Nat.gcd_dvd_left _ _) with g | g
  · exfalso
    have hdm : Nat.gcd (N - 1) (r - 1) ∣ m := by
      have h3 : Nat.gcd (N - 1) (r - 1) ∣ m * q := by
        rw [Nat.mul_comm m q, ← hN]
        exact Nat.gcd_dvd_left _ _
      exact Nat.Coprime.dvd_of_dvd_mul_right (k := Nat.gcd (N - 1) (r - 1)) (n := q) (m := m) (Nat.Coprime.symm g) h3
    obtain ⟨c, hc⟩ := hdm
    have hm1 : a ^ m % r = 1 := by
      rw [hc, Nat.pow_mul, Nat.pow_mod, hgcd, Nat.one_pow]
      exact Nat.mod_eq_of_lt (by omega)
    have hx : r ∣ a ^ m % N + (N - 1) := by
      apply Nat.dvd_of_mod_eq_zero
      have e1 : a ^ m % N % r = 1 := by rw [Nat.mod_mod_of_dvd _ hrN]; exact hm1
      obtain ⟨t, ht⟩ := hrN
      have ht0 : 0 < t := by
        rcases Nat.eq_zero_or_pos t with e | e
        · rw [e] at ht; omega
        · exact e
      have e2 : (N - 1) % r = r - 1 := by
        obtain ⟨u, rfl⟩ : ∃ u, t = u + 1 := ⟨t - 1, by omega⟩
        have : N - 1 = r * u + (r - 1) := by rw [ht, Nat.mul_add]; omega
        rw [this, Nat.mul_add_mod]
        exact Nat.mod_eq_of_lt (by omega)
      rw [Nat.add_mod, e1, e2, show 1 + (r - 1) = r by omega, Nat.mod_self]
    have hd1 := Nat.dvd_gcd hx hrN
    rw [hg] at hd1
    have := Nat.le_of_dvd (by omega) hd1
    omega
  · have h3 : q ∣ Nat.gcd (N - 1) (r - 1) := by rw [← g]; exact Nat.gcd_dvd_right _ _
    exact Nat.dvd_trans h3 (Nat.gcd_dvd_right _ _)
theorem pock2 {N p q a m n : Nat} (hp : Pr p) (hq : Pr q) (hpq : p ≠ q) (hN2 : 2 ≤ N) (hm : N - 1 = p * m) (hn : N - 1 = q * n) (h1 : a ^ (N - 1) % N = 1)
    (gm : Nat.gcd (a ^ m % N + (N - 1)) N = 1) (gn : Nat.gcd (a ^ n % N + (N - 1)) N = 1) (hF : N < p * q * (p * q)) : Pr N := by
  obtain ⟨r, hr, hrN, hc⟩ := least_div N hN2
  rcases hc with rfl | hc
  · exact hr
  · exfalso
    have d1 := pock hp hm h1 gm hN2 hr hrN
    have d2 := pock hq hn h1 gn hN2 hr hrN
    have hcop : Nat.Coprime p q := by
      rcases hp.div (Nat.gcd p q) (Nat.gcd_dvd_left _ _) with g | g
      · exact g
      · have h3 : p ∣ q := by rw [← g]; exact Nat.gcd_dvd_right _ _
        rcases hq.div p h3 with e | e
        · have := hp.two; omega
        · exact absurd e hpq
    have d3 := Nat.Coprime.mul_dvd_of_dvd_of_dvd hcop d1 d2
    have r2 := hr.two
    have h4 := Nat.le_of_dvd (by omega) d3
    have h5 : p * q * (p * q) ≤ r * r := Nat.mul_le_mul (by omega) (by omega)
    omega
/-- powers by squaring -/
def pm (N : Nat) : Nat → Nat → Nat → Nat
  | 0, _, _ => 1 % N
  | f + 1, a, e => if e % 2 = 1 then a * pm N f (a * a % N) (e / 2) % N else pm N f (a * a % N) (e / 2)
theorem pm_eq (N : Nat) : ∀ f a e, e < 2 ^ f → pm N f a e = a ^ e % N
  | 0, a, e, h => by
    have : e = 0 := by omega
    subst this; simp [pm]
  | f + 1, a, e, h => by
    have ih := pm_eq N f (a * a % N) (e / 2) (by rw [Nat.pow_succ] at h; omega)
    have hsq : (a * a % N) ^ (e / 2) % N = a ^ (2 * (e / 2)) % N := by
      rw [← Nat.pow_mod, Nat.pow_mul, Nat.pow_two]
    rw [pm, ih, hsq]
    by_cases h2 : e % 2 = 1
    · rw [if_pos h2, Nat.mul_mod, Nat.mod_mod, ← Nat.mul_mod, ← Nat.pow_succ']
      congr 2; omega
    · rw [if_neg h2]
      congr 2; omega
theorem pock3 {N p q a m n : Nat} (f : Nat) (hf : N < 2 ^ f) (hp : Pr p) (hq : Pr q) (hpq : p ≠ q) (hN2 : 2 ≤ N) (hm : N - 1 = p * m) (hn : N - 1 = q * n) (h1 : pm N f a (N - 1) = 1)
    (gm : Nat.gcd (pm N f a m + (N - 1)) N = 1) (gn : Nat.gcd (pm N f a n + (N - 1)) N = 1) (hF : N < p * q * (p * q)) : Pr N := by
  have hp0 : 0 < p := by have := hp.two; omega
  have hq0 : 0 < q := by have := hq.two; omega
  have lm : m ≤ N - 1 := by rw [hm]; exact Nat.le_mul_of_pos_left m hp0
  have ln : n ≤ N - 1 := by rw [hn]; exact Nat.le_mul_of_pos_left n hq0
  rw [pm_eq N f a _ (by omega)] at h1 gm gn
  exact pock2 hp hq hpq hN2 hm hn h1 gm gn hF
/-- trial division -/
def tri (n : Nat) : Nat → Nat → Bool
  | 0, _ => true
  | f + 1, d => n % d != 0 && tri n f (d + 1)
theorem tri_ok (n : Nat) : ∀ f d, tri n f d = true → ∀ x, d ≤ x → x < d + f → ¬ x ∣ n
  | 0, d, _, x, h1, h2 => by omega
  | f + 1, d, h, x, h1, h2 => by
    rw [tri, Bool.and_eq_true] at h
    by_cases e : x = d
    · subst e
      intro hd
      have := Nat.mod_eq_zero_of_dvd hd
      simp [this] at h
    · exact tri_ok n f (d + 1) h.2 x (by omega) (by omega)
theorem pr_trial {n f : Nat} (hn : 2 ≤ n) (h : tri n f 2 = true) (hf : n < (f + 2) * (f + 2)) : Pr n := by
  obtain ⟨r, hr, hrN, hc⟩ := least_div n hn
  rcases hc with rfl | hc
  · exact hr
  · exfalso
    have hlt : r < f + 2 := by
      rcases Nat.lt_or_ge r (f + 2) with g | g
      · exact g
      · have := Nat.mul_le_mul g g; omega
    exact tri_ok n f 2 h r hr.two (by omega) hrN
end Go.Prm
namespace Go.Proofs.Ytlffamcifahbjaa
open Go.Fld Go.Prm
theorem pr_127 : Pr 127 := pr_trial (f := 11) (by decide) (by decide +kernel) (by decide)
theorem pr_57467 : Pr 57467 := pr_trial (f := 239) (by decide) (by decide +kernel) (by decide)
theorem pr_65147 : Pr 65147 := pr_trial (f := 255) (by decide) (by decide +kernel) (by decide)
theorem pr_75707 : Pr 75707 := pr_trial (f := 275) (by decide) (by decide +kernel) (by decide)
theorem pr_8574133 : Pr 8574133 := pr_trial (f := 2928) (by decide) (by decide +kernel) (by decide)
theorem pr_1919519569386763 : Pr 1919519569386763 := by
  exact pock3 (a := 2) (m := 223873314) (n := 15114327318006) 51 (by decide) pr_8574133 pr_127 (by decide) (by decide) (by decide) (by decide) (by decide +kernel) (by decide +kernel) (by decide +kernel) (by decide)
theorem pr_75445702479781427272750846543864801 : Pr 75445702479781427272750846543864801 := by
  exact pock3 (a := 2) (m := 39304471641247389600) (n := 996548568557483816196003626400) 116 (by decide) pr_1919519569386763 pr_75707 (by decide) (by decide) (by decide) (by decide) (by decide +kernel) (by decide +kernel) (by decide +kernel) (by decide)
theorem pr_74058212732561358302231226437062788676166966415465897661863160754340907 : Pr 74058212732561358302231226437062788676166966415465897661863160754340907 := by
  exact pock3 (a := 2) (m := 981609426360740691344999861639072106) (n := 1288708523719027586305727224964984924846728842909250485702458119518) 236 (by decide) pr_75445702479781427272750846543864801 pr_57467 (by decide) (by decide) (by decide) (by decide) (by decide +kernel) (by decide +kernel) (by decide +kernel) (by decide)
theorem pr_57896044618658097711785492504343953926634992332820282019728792003956564819949 : Pr 57896044618658097711785492504343953926634992332820282019728792003956564819949 := by
  exact pock3 (a := 2) (m := 781764) (n := 888698552790736299626774717244753464114003596985590771942357929052090884) 255 (by decide) pr_74058212732561358302231226437062788676166966415465897661863160754340907 pr_65147 (by decide) (by decide) (by decide) (by decide) (by decide +kernel) (by decide +kernel) (by decide +kernel) (by decide)
theorem prP : Pr P := pr_57896044618658097711785492504343953926634992332820282019728792003956564819949
/-! powers modulo P -/
theorem sqn_pow {a e f g : Nat} (x : Nat) (hx : x = a ^ e % P) (hf : f = a ^ g % P) : sqn x f = a ^ (2 * e + g) % P := by
  rw [sqn, hx, hf, ← Nat.mul_mod (a ^ e) (a ^ e), ← Nat.mul_mod, ← Nat.pow_add, ← Nat.pow_add]
  congr 2
  omega
theorem pwn_pow (a : Nat) (ha : a < P) : ∀ k, pwn a k = a ^ (2 ^ (k + 1) - 1) % P
  | 0 => by rw [pwn, show 2 ^ (0 + 1) - 1 = 1 from rfl, Nat.pow_one, Nat.mod_eq_of_lt ha]
  | k + 1 => by
    rw [pwn, sqn_pow (g := 1) _ (pwn_pow a ha k) (by rw [Nat.pow_one, Nat.mod_eq_of_lt ha])]
    congr 2
    have : 1 ≤ 2 ^ (k + 1) := Nat.pow_pos (by decide)
    rw [Nat.pow_succ 2 (k + 1)]
    omega
theorem one_pow0 (a : Nat) : 1 = a ^ 0 % P := by rw [Nat.pow_zero]; decide
theorem qwn_pow (a : Nat) (ha : a < P) : qwn a 5 = a ^ (P - 2) % P := by
  have h1 : a = a ^ 1 % P := by rw [Nat.pow_one, Nat.mod_eq_of_lt ha]
  have h := pwn_pow a ha 249
  have q1 : qwn a 1 = _ := sqn_pow (g := 0) _ h (one_pow0 a)
  have q2 : qwn a 2 = _ := sqn_pow (g := 1) _ q1 h1
  have q3 : qwn a 3 = _ := sqn_pow (g := 0) _ q2 (one_pow0 a)
  have q4 : qwn a 4 = _ := sqn_pow (g := 1) _ q3 h1
  have q5 : qwn a 5 = _ := sqn_pow (g := 1) _ q4 h1
  rw [q5]
  congr 2
theorem inv_mul (a : Nat) (ha : a < P) (h0 : a ≠ 0) : a * qwn a 5 % P = 1 := by
  have hl := prP.little (a := a) (by rw [Nat.mod_eq_of_lt ha]; exact h0)
  rw [qwn_pow a ha, Nat.mul_mod, Nat.mod_mod, ← Nat.mul_mod, ← Nat.pow_succ']
  exact hl
theorem inv_zero : qwn 0 5 = 0 := by decide +kernel
theorem inv_lt (a : Nat) : qwn a 5 < P := Nat.mod_lt _ (by decide)
theorem mul_zero_iff (a b : Nat) (ha : a < P) (hb : b < P) : a * b % P = 0 ↔ a = 0 ∨ b = 0 := by
  constructor
  · intro h
    rcases prP.euclid (Nat.dvd_of_mod_eq_zero h) with g | g
    · left
      rcases Nat.eq_zero_or_pos a with e | e
      · exact e
      · have := Nat.le_of_dvd e g; omega
    · right
      rcases Nat.eq_zero_or_pos b with e | e
      · exact e
      · have := Nat.le_of_dvd e g; omega
  · rintro (rfl | rfl)
    · simp
    · simp
theorem inv_inv (a : Nat) (ha : a < P) : qwn (qwn a 5) 5 = a := by
  by_cases h0 : a = 0
  · rw [h0, inv_zero, inv_zero]
  · have h1 := inv_mul a ha h0
    have hi : qwn a 5 ≠ 0 := fun e => by rw [e] at h1; simp at h1
    have h2 := inv_mul (qwn a 5) (inv_lt a) hi
    have h3 := inv_lt (qwn a 5)
    have e1 : qwn (qwn a 5) 5 = a * qwn a 5 % P * qwn (qwn a 5) 5 % P := by rw [h1, Nat.one_mul, Nat.mod_eq_of_lt h3]
    rw [e1, Nat.mul_mod, Nat.mod_mod, ← Nat.mul_mod, Nat.mul_assoc, Nat.mul_mod, h2, Nat.mul_one, Nat.mod_mod, Nat.mod_eq_of_lt ha]
theorem inv_prod (a b : Nat) (ha : a < P) (hb : b < P) : qwn (a * b % P) 5 = qwn a 5 * qwn b 5 % P := by
  rw [qwn_pow _ (Nat.mod_lt _ (by decide)), qwn_pow a ha, qwn_pow b hb, ← Nat.pow_mod, Nat.mul_pow, Nat.mul_mod]
end Go.Proofs.Ytlffamcifahbjaa
