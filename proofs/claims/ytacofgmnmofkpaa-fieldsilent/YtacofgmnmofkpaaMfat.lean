import Derived.Test.YtacofgmnmofkpaaMfan
import Derived.Test.YtacofgmnmofkpaaMfao
import Derived.Test.YtacofgmnmofkpaaMfap
import Derived.Test.YtacofgmnmofkpaaMfaq
import Derived.Test.YtacofgmnmofkpaaMfar
import Derived.Test.YtacofgmnmofkpaaMfaj
import Derived.Test.YtacofgmnmofkpaaMfas
import Derived.Test.YtacofgmnmofkpaaMfah
import Derived.Test.YtacofgmnmofkpaaMfai
namespace Go.Proofs.Ytacofgmnmofkpaa
set_option linter.unusedSimpArgs false
set_option linter.unusedVariables false
open Go.ChangeShapes Go.WideShapes Go.ChangeAt Go.RowKit Go.Pin Go.Fld
set_option maxRecDepth 100000 in
set_option maxHeartbeats 8000000 in
theorem step_k6 {B : Nat} {w : World} {rv : Value} {lr : List (Int × Int)} {g : Nat} {es : Nat → List Int} {ns : Nat → Nat} {vs : Value} {ll : List (Int × Int)} {bx : List (Nat × Obj)} {W : World} {i k c : Nat} {A Bv C N T : Int} {D : List Int} 
    (h : SB B w rv lr g es ns vs ll bx W) (hl : lr.length ≤ 900000) (hll : ll.length ≤ 900000) (ei : (i : Int) = A % 8) (ek : (k : Int) = Bv % 8) (ec : (c : Int) = C % 8) (kD : Key32 D) (hN : 0 ≤ N ∧ N < 4294967296) (hT : 0 ≤ T ∧ T < 18446744073709551616) (hR : ∀ j, j < 8 → num (es j) = ns j) :
    Calls Try.prog 17 #[.pointer (some ⟨g, 0, none⟩), rv, .agg (stA 6 A Bv C D N T)] W fun e w' => e = .returned (.tuple #[]) ∧ ∃ es' vs', SB B w rv (lr ++ [(3, 5)]) g es' (upd ns c (ns i * N.toNat % P)) vs' (ll ++ [(3, 5)]) bx w' ∧ ∀ j, j < 8 → num (es' j) = (upd ns c (ns i * N.toNat % P)) j := by
  have hi8 : Hid (i < 8) := by show i < 8; omega
  have hk8 : Hid (k < 8) := by show k < 8; omega
  have hc8 : Hid (c < 8) := by show c < 8; omega
  have LD : Hid (D.length = 32) := kD.len
  have CA : Hid (∀ w, Calls Try.prog 32 #[.int .i64 A] w fun e w' => e = .returned (.int .i64 (i : Int)) ∧ w' = w) := by rw [ei]; exact fun w => round_any A w
  have CB : Hid (∀ w, Calls Try.prog 32 #[.int .i64 Bv] w fun e w' => e = .returned (.int .i64 (k : Int)) ∧ w' = w) := by rw [ek]; exact fun w => round_any Bv w
  have CC : Hid (∀ w, Calls Try.prog 32 #[.int .i64 C] w fun e w' => e = .returned (.int .i64 (c : Int)) ∧ w' = w) := by rw [ec]; exact fun w => round_any C w
  have HL : Hid (lr.length ≤ 1000000) := by show lr.length ≤ 1000000; omega
  have HLL : Hid (ll.length ≤ 1000000) := by show ll.length ≤ 1000000; omega
  have HN : Hid (0 ≤ N ∧ N < 4294967296) := hN
  have HT : Hid (0 ≤ T ∧ T < 18446744073709551616) := hT
  have HRR : Hid (∀ j, j < 8 → num (es j) = ns j) := hR
  have LI : Hid (Lim (es i) ∧ Lim (es k) ∧ ns i < P ∧ ns k < P) := ⟨h.bn.lim i hi8.out, h.bn.lim k hk8.out, h.bn.nl i hi8.out, h.bn.nl k hk8.out⟩
  have KD : Hid (Key32 D) := kD
  obtain ⟨n, rfl⟩ := Int.eq_ofNat_of_zero_le hN.1
  simp only [Int.toNat_natCast]
  have hn32 : n < 4294967296 := by omega
  obtain ⟨z, lz0, nz, HC⟩ := o_scale LI.out.1 n hn32
  have NZ : Hid (num z = ns i * n % P) := by show num z = ns i * n % P; rw [nz]; rw [HRR.out i hi8.out]
  have lz : Hid (Lim z) := lz0
  have HM : Hid (ns i * n % P < P) := Nat.mod_lt _ (by decide)
  have HD : Hid (∀ w, Calls Try.prog 43 #[.agg (VI .i64 (dg (ns i))), .int .i64 (n : Int)] w fun e w' => e = .returned (.agg (VI .i64 (dg (ns i * n % P)))) ∧ Below w.heap.size w w') := fun w => rscale_any _ n LI.out.2.2.1 hn32 w
  clear lz0 nz
  clear hn32
  have hE := h.new (stO 6 A Bv C D (n : Int) T)
  obtain ⟨W0, hW⟩ : ∃ W0, W.alloc (.cells (stA 6 A Bv C D (n : Int) T) 60) = W0 := ⟨_, rfl⟩
  rw [show W.alloc (stO 6 A Bv C D (n : Int) T) = W0 from hW] at hE
  obtain ⟨gx, hg⟩ : ∃ gx, W.heap.size = gx := ⟨_, rfl⟩
  rw [hg] at hE
  have c0 : W0.cell? ⟨gx, 0, none⟩ = some (.int .i64 (6)) := by have := st_cell (hE.row (k := gx) (x := stO 6 A Bv C D (n : Int) T) (by simp)) 0; rw [this, Array.getElem?_append_left (by simp; omega), Array.getElem?_append_left (by simp)]; rfl
  have c1 : W0.cell? ⟨gx, 1, none⟩ = some (.int .i64 A) := by have := st_cell (hE.row (k := gx) (x := stO 6 A Bv C D (n : Int) T) (by simp)) 1; rw [this, Array.getElem?_append_left (by simp; omega), Array.getElem?_append_left (by simp)]; rfl
  have c2 : W0.cell? ⟨gx, 2, none⟩ = some (.int .i64 Bv) := by have := st_cell (hE.row (k := gx) (x := stO 6 A Bv C D (n : Int) T) (by simp)) 2; rw [this, Array.getElem?_append_left (by simp; omega), Array.getElem?_append_left (by simp)]; rfl
  have c3 : W0.cell? ⟨gx, 3, none⟩ = some (.int .i64 C) := by have := st_cell (hE.row (k := gx) (x := stO 6 A Bv C D (n : Int) T) (by simp)) 3; rw [this, Array.getElem?_append_left (by simp; omega), Array.getElem?_append_left (by simp)]; rfl
  have X0 : Hid (SB B w rv lr g es ns vs ll ((gx, stO 6 A Bv C D (n : Int) T) :: bx) W0) := hE
  clear hE h hl hll ei ek ec kD hN hT hR
  generalize stA 6 A Bv C D (n : Int) T = sva at *
  go_enter Try.func17, Try.ntmps17
  go_wp2_with fail
  try simp only [hg]
  refine (CA.out _).mono ?_
  rintro e w1 ⟨rfl, hw1⟩
  obtain rfl : W0 = w1 := hw1.symm
  go_wp2_with fail
  refine (CB.out _).mono ?_
  rintro e w1 ⟨rfl, hw1⟩
  obtain rfl : W0 = w1 := hw1.symm
  go_wp2_with fail
  refine (CC.out _).mono ?_
  rintro e w1 ⟨rfl, hw1⟩
  obtain rfl : W0 = w1 := hw1.symm
  go_wp2_with fail
  clear c0 c1 c2 c3 hW hg CA CB CC
  refine wp_as (c' := rgB25) (by kernel_rfl) ?_
  refine bk_r25 (K0 := 6) (A0 := A) (B0 := Bv) (C0 := C) (N := (n : Int)) (T := T) (D := D) hi8 hk8 hc8 LD HC HL lz (List.mem_cons_self ..) X0.out (fun _ _ d _ _ h => by cases d <;> exact h) ?_
  intro W1 hN1
  have X1 : Hid (SB B w rv (lr ++ [(3, 5)]) g (upd es c z) ns vs ll ((gx, stO 6 A Bv C D (n : Int) T) :: bx) W1) := hN1
  clear hN1 X0
  go_wp2_with fail
  refine wp_as (c' := rgB26) (by kernel_rfl) ?_
  refine bk_r26 (K0 := 6) (A0 := A) (B0 := Bv) (C0 := C) (N := (n : Int)) (T := T) (D := D) hi8 hk8 hc8 LD HD HM HN (List.mem_cons_self ..) X1.out (fun _ _ d _ _ h => by cases d <;> exact h) ?_
  intro W2 hN2
  have X2 : Hid (SB B w rv (lr ++ [(3, 5)]) g (upd es c z) (upd ns c (ns i * n % P)) vs ll ((gx, stO 6 A Bv C D (n : Int) T) :: bx) W2) := hN2
  clear hN2 X1
  go_wp2_with fail
  refine (logs_any 5 X2.out HLL.out).mono ?_
  rintro e W3 ⟨rfl, vs3, hN3⟩
  have XF : Hid _ := hN3
  clear hN3 X2
  go_wp2
  go_end0
  exact ⟨rfl, _, _, XF.out.sub (fun p hp => List.mem_cons_of_mem _ hp), upd_num HRR.out NZ.out⟩
set_option maxRecDepth 100000 in
set_option maxHeartbeats 8000000 in
theorem step_k7 {B : Nat} {w : World} {rv : Value} {lr : List (Int × Int)} {g : Nat} {es : Nat → List Int} {ns : Nat → Nat} {vs : Value} {ll : List (Int × Int)} {bx : List (Nat × Obj)} {W : World} {i k c : Nat} {A Bv C N T : Int} {D : List Int} 
    (h : SB B w rv lr g es ns vs ll bx W) (hl : lr.length ≤ 900000) (hll : ll.length ≤ 900000) (ei : (i : Int) = A % 8) (ek : (k : Int) = Bv % 8) (ec : (c : Int) = C % 8) (kD : Key32 D) (hN : 0 ≤ N ∧ N < 4294967296) (hT : 0 ≤ T ∧ T < 18446744073709551616) (hR : ∀ j, j < 8 → num (es j) = ns j) :
    Calls Try.prog 17 #[.pointer (some ⟨g, 0, none⟩), rv, .agg (stA 7 A Bv C D N T)] W fun e w' => e = .returned (.tuple #[]) ∧ ∃ es' vs', SB B w rv (lr ++ [(3, 6)]) g es' (upd ns c (qwn (ns i) 5)) vs' (ll ++ [(3, 6)]) bx w' ∧ ∀ j, j < 8 → num (es' j) = (upd ns c (qwn (ns i) 5)) j := by
  have hi8 : Hid (i < 8) := by show i < 8; omega
  have hk8 : Hid (k < 8) := by show k < 8; omega
  have hc8 : Hid (c < 8) := by show c < 8; omega
  have LD : Hid (D.length = 32) := kD.len
  have CA : Hid (∀ w, Calls Try.prog 32 #[.int .i64 A] w fun e w' => e = .returned (.int .i64 (i : Int)) ∧ w' = w) := by rw [ei]; exact fun w => round_any A w
  have CB : Hid (∀ w, Calls Try.prog 32 #[.int .i64 Bv] w fun e w' => e = .returned (.int .i64 (k : Int)) ∧ w' = w) := by rw [ek]; exact fun w => round_any Bv w
  have CC : Hid (∀ w, Calls Try.prog 32 #[.int .i64 C] w fun e w' => e = .returned (.int .i64 (c : Int)) ∧ w' = w) := by rw [ec]; exact fun w => round_any C w
  have HL : Hid (lr.length ≤ 1000000) := by show lr.length ≤ 1000000; omega
  have HLL : Hid (ll.length ≤ 1000000) := by show ll.length ≤ 1000000; omega
  have HN : Hid (0 ≤ N ∧ N < 4294967296) := hN
  have HT : Hid (0 ≤ T ∧ T < 18446744073709551616) := hT
  have HRR : Hid (∀ j, j < 8 → num (es j) = ns j) := hR
  have LI : Hid (Lim (es i) ∧ Lim (es k) ∧ ns i < P ∧ ns k < P) := ⟨h.bn.lim i hi8.out, h.bn.lim k hk8.out, h.bn.nl i hi8.out, h.bn.nl k hk8.out⟩
  have KD : Hid (Key32 D) := kD
  obtain ⟨z, lz0, nz, HC⟩ := o_invert LI.out.1
  have NZ : Hid (num z = qwn (ns i) 5) := by show num z = qwn (ns i) 5; rw [nz]; rw [HRR.out i hi8.out]
  have lz : Hid (Lim z) := lz0
  have HM : Hid (qwn (ns i) 5 < P) := inv_lt _
  have HD : Hid (∀ w, Calls Try.prog 45 #[.agg (VI .i64 (dg (ns i)))] w fun e w' => e = .returned (.agg (VI .i64 (dg (qwn (ns i) 5)))) ∧ Below w.heap.size w w') := fun w => rinvert_any _ LI.out.2.2.1 w
  clear lz0 nz
  have hE := h.new (stO 7 A Bv C D N T)
  obtain ⟨W0, hW⟩ : ∃ W0, W.alloc (.cells (stA 7 A Bv C D N T) 60) = W0 := ⟨_, rfl⟩
  rw [show W.alloc (stO 7 A Bv C D N T) = W0 from hW] at hE
  obtain ⟨gx, hg⟩ : ∃ gx, W.heap.size = gx := ⟨_, rfl⟩
  rw [hg] at hE
  have c0 : W0.cell? ⟨gx, 0, none⟩ = some (.int .i64 (7)) := by have := st_cell (hE.row (k := gx) (x := stO 7 A Bv C D N T) (by simp)) 0; rw [this, Array.getElem?_append_left (by simp; omega), Array.getElem?_append_left (by simp)]; rfl
  have c1 : W0.cell? ⟨gx, 1, none⟩ = some (.int .i64 A) := by have := st_cell (hE.row (k := gx) (x := stO 7 A Bv C D N T) (by simp)) 1; rw [this, Array.getElem?_append_left (by simp; omega), Array.getElem?_append_left (by simp)]; rfl
  have c2 : W0.cell? ⟨gx, 2, none⟩ = some (.int .i64 Bv) := by have := st_cell (hE.row (k := gx) (x := stO 7 A Bv C D N T) (by simp)) 2; rw [this, Array.getElem?_append_left (by simp; omega), Array.getElem?_append_left (by simp)]; rfl
  have c3 : W0.cell? ⟨gx, 3, none⟩ = some (.int .i64 C) := by have := st_cell (hE.row (k := gx) (x := stO 7 A Bv C D N T) (by simp)) 3; rw [this, Array.getElem?_append_left (by simp; omega), Array.getElem?_append_left (by simp)]; rfl
  have X0 : Hid (SB B w rv lr g es ns vs ll ((gx, stO 7 A Bv C D N T) :: bx) W0) := hE
  clear hE h hl hll ei ek ec kD hN hT hR
  generalize stA 7 A Bv C D N T = sva at *
  go_enter Try.func17, Try.ntmps17
  go_wp2_with fail
  try simp only [hg]
  refine (CA.out _).mono ?_
  rintro e w1 ⟨rfl, hw1⟩
  obtain rfl : W0 = w1 := hw1.symm
  go_wp2_with fail
  refine (CB.out _).mono ?_
  rintro e w1 ⟨rfl, hw1⟩
  obtain rfl : W0 = w1 := hw1.symm
  go_wp2_with fail
  refine (CC.out _).mono ?_
  rintro e w1 ⟨rfl, hw1⟩
  obtain rfl : W0 = w1 := hw1.symm
  go_wp2_with fail
  clear c0 c1 c2 c3 hW hg CA CB CC
  refine wp_as (c' := rgB29) (by kernel_rfl) ?_
  refine bk_r29 (K0 := 7) (A0 := A) (B0 := Bv) (C0 := C) (N := N) (T := T) (D := D) hi8 hk8 hc8 LD HC HL lz (List.mem_cons_self ..) X0.out (fun _ _ d _ _ h => by cases d <;> exact h) ?_
  intro W1 hN1
  have X1 : Hid (SB B w rv (lr ++ [(3, 6)]) g (upd es c z) ns vs ll ((gx, stO 7 A Bv C D N T) :: bx) W1) := hN1
  clear hN1 X0
  go_wp2_with fail
  refine wp_as (c' := rgB30) (by kernel_rfl) ?_
  refine bk_r30 (K0 := 7) (A0 := A) (B0 := Bv) (C0 := C) (N := N) (T := T) (D := D) hi8 hk8 hc8 LD HD HM (List.mem_cons_self ..) X1.out (fun _ _ d _ _ h => by cases d <;> exact h) ?_
  intro W2 hN2
  have X2 : Hid (SB B w rv (lr ++ [(3, 6)]) g (upd es c z) (upd ns c (qwn (ns i) 5)) vs ll ((gx, stO 7 A Bv C D N T) :: bx) W2) := hN2
  clear hN2 X1
  go_wp2_with fail
  refine (logs_any 6 X2.out HLL.out).mono ?_
  rintro e W3 ⟨rfl, vs3, hN3⟩
  have XF : Hid _ := hN3
  clear hN3 X2
  go_wp2
  go_end0
  exact ⟨rfl, _, _, XF.out.sub (fun p hp => List.mem_cons_of_mem _ hp), upd_num HRR.out NZ.out⟩
set_option maxRecDepth 100000 in
set_option maxHeartbeats 8000000 in
theorem step_k8 {B : Nat} {w : World} {rv : Value} {lr : List (Int × Int)} {g : Nat} {es : Nat → List Int} {ns : Nat → Nat} {vs : Value} {ll : List (Int × Int)} {bx : List (Nat × Obj)} {W : World} {i k c : Nat} {A Bv C N T : Int} {D : List Int} {ms : Nat → Nat} (hms : (T % 2 = 1 ∧ ms = upd (upd ns i (ns k)) k (ns i)) ∨ (¬ T % 2 = 1 ∧ ms = ns))
    (h : SB B w rv lr g es ns vs ll bx W) (hl : lr.length ≤ 900000) (hll : ll.length ≤ 900000) (ei : (i : Int) = A % 8) (ek : (k : Int) = Bv % 8) (ec : (c : Int) = C % 8) (kD : Key32 D) (hN : 0 ≤ N ∧ N < 4294967296) (hT : 0 ≤ T ∧ T < 18446744073709551616) (hR : ∀ j, j < 8 → num (es j) = ns j) :
    Calls Try.prog 17 #[.pointer (some ⟨g, 0, none⟩), rv, .agg (stA 8 A Bv C D N T)] W fun e w' => e = .returned (.tuple #[]) ∧ ∃ es' vs', SB B w rv (lr ++ [(3, 7)]) g es' ms vs' (ll ++ [(3, 7)]) bx w' ∧ ∀ j, j < 8 → num (es' j) = ms j := by
  have hi8 : Hid (i < 8) := by show i < 8; omega
  have hk8 : Hid (k < 8) := by show k < 8; omega
  have hc8 : Hid (c < 8) := by show c < 8; omega
  have LD : Hid (D.length = 32) := kD.len
  have CA : Hid (∀ w, Calls Try.prog 32 #[.int .i64 A] w fun e w' => e = .returned (.int .i64 (i : Int)) ∧ w' = w) := by rw [ei]; exact fun w => round_any A w
  have CB : Hid (∀ w, Calls Try.prog 32 #[.int .i64 Bv] w fun e w' => e = .returned (.int .i64 (k : Int)) ∧ w' = w) := by rw [ek]; exact fun w => round_any Bv w
  have CC : Hid (∀ w, Calls Try.prog 32 #[.int .i64 C] w fun e w' => e = .returned (.int .i64 (c : Int)) ∧ w' = w) := by rw [ec]; exact fun w => round_any C w
  have HL : Hid (lr.length ≤ 1000000) := by show lr.length ≤ 1000000; omega
  have HLL : Hid (ll.length ≤ 1000000) := by show ll.length ≤ 1000000; omega
  have HN : Hid (0 ≤ N ∧ N < 4294967296) := hN
  have HT : Hid (0 ≤ T ∧ T < 18446744073709551616) := hT
  have HRR : Hid (∀ j, j < 8 → num (es j) = ns j) := hR
  have LI : Hid (Lim (es i) ∧ Lim (es k) ∧ ns i < P ∧ ns k < P) := ⟨h.bn.lim i hi8.out, h.bn.lim k hk8.out, h.bn.nl i hi8.out, h.bn.nl k hk8.out⟩
  have KD : Hid (Key32 D) := kD
  have HMS : Hid _ := hms
  clear hms
  have hE := h.new (stO 8 A Bv C D N T)
  obtain ⟨W0, hW⟩ : ∃ W0, W.alloc (.cells (stA 8 A Bv C D N T) 60) = W0 := ⟨_, rfl⟩
  rw [show W.alloc (stO 8 A Bv C D N T) = W0 from hW] at hE
  obtain ⟨gx, hg⟩ : ∃ gx, W.heap.size = gx := ⟨_, rfl⟩
  rw [hg] at hE
  have c0 : W0.cell? ⟨gx, 0, none⟩ = some (.int .i64 (8)) := by have := st_cell (hE.row (k := gx) (x := stO 8 A Bv C D N T) (by simp)) 0; rw [this, Array.getElem?_append_left (by simp; omega), Array.getElem?_append_left (by simp)]; rfl
  have c1 : W0.cell? ⟨gx, 1, none⟩ = some (.int .i64 A) := by have := st_cell (hE.row (k := gx) (x := stO 8 A Bv C D N T) (by simp)) 1; rw [this, Array.getElem?_append_left (by simp; omega), Array.getElem?_append_left (by simp)]; rfl
  have c2 : W0.cell? ⟨gx, 2, none⟩ = some (.int .i64 Bv) := by have := st_cell (hE.row (k := gx) (x := stO 8 A Bv C D N T) (by simp)) 2; rw [this, Array.getElem?_append_left (by simp; omega), Array.getElem?_append_left (by simp)]; rfl
  have c3 : W0.cell? ⟨gx, 3, none⟩ = some (.int .i64 C) := by have := st_cell (hE.row (k := gx) (x := stO 8 A Bv C D N T) (by simp)) 3; rw [this, Array.getElem?_append_left (by simp; omega), Array.getElem?_append_left (by simp)]; rfl
  have X0 : Hid (SB B w rv lr g es ns vs ll ((gx, stO 8 A Bv C D N T) :: bx) W0) := hE
  clear hE h hl hll ei ek ec kD hN hT hR
  generalize stA 8 A Bv C D N T = sva at *
  go_enter Try.func17, Try.ntmps17
  go_wp2_with fail
  try simp only [hg]
  refine (CA.out _).mono ?_
  rintro e w1 ⟨rfl, hw1⟩
  obtain rfl : W0 = w1 := hw1.symm
  go_wp2_with fail
  refine (CB.out _).mono ?_
  rintro e w1 ⟨rfl, hw1⟩
  obtain rfl : W0 = w1 := hw1.symm
  go_wp2_with fail
  refine (CC.out _).mono ?_
  rintro e w1 ⟨rfl, hw1⟩
  obtain rfl : W0 = w1 := hw1.symm
  go_wp2_with fail
  clear c0 c1 c2 c3 hW hg CA CB CC
  refine wp_as (c' := rgB33) (by kernel_rfl) ?_
  refine bk_r33 (K0 := 8) (A0 := A) (B0 := Bv) (C0 := C) (N := N) (T := T) (D := D) hi8 hk8 hc8 LD HT HL (List.mem_cons_self ..) X0.out (fun _ _ d _ _ h => by cases d <;> exact h) ?_
  intro W1 hN1
  have X1 : Hid (SB B w rv (lr ++ [(3, 7)]) g (upd (upd es i (swp T (es i) (es k))) k (swp T (es k) (es i))) ns vs ll ((gx, stO 8 A Bv C D N T) :: bx) W1) := hN1
  clear hN1 X0
  have cb : W1.cell? ⟨gx, 37, none⟩ = some (.int .u64 T) := st_bit (X1.out.row (k := gx) (x := stO 8 A Bv C D N T) (by simp)) LD.out
  have ht := HT.out
  have hm : T.tmod 2 = T % 2 := Int.tmod_eq_emod_of_nonneg ht.1
  by_cases hodd : T % 2 = 1
  · have hq : (T % 2 == 1) = true := by simp [hodd]
    go_wp2_with fail
    refine wp_as (c' := rgB35) (by kernel_rfl) ?_
    refine bk_r35 (K0 := 8) (A0 := A) (B0 := Bv) (C0 := C) (N := N) (T := T) (D := D) hi8 hk8 hc8 LD  (List.mem_cons_self ..) X1.out (fun _ _ d _ _ h => by cases d <;> exact h) ?_
    intro W2 hN1
    have X2 : Hid (SB B w rv (lr ++ [(3, 7)]) g (upd (upd es i (swp T (es i) (es k))) k (swp T (es k) (es i))) (upd (upd ns i (ns k)) k (ns i)) vs ll ((gx, stO 8 A Bv C D N T) :: bx) W2) := hN1
    clear hN1 X1
    clear cb
    go_wp2_with fail
    refine (logs_any 7 X2.out HLL.out).mono ?_
    rintro e W3 ⟨rfl, vs3, hN3⟩
    have XF : Hid _ := hN3
    clear hN3 X2
    go_wp2
    go_end0
    obtain rfl : ms = upd (upd ns i (ns k)) k (ns i) := by
      rcases HMS.out with ⟨_, e⟩ | ⟨e, _⟩
      · exact e
      · exact absurd hodd e
    exact ⟨rfl, _, _, XF.out.sub (fun p hp => List.mem_cons_of_mem _ hp), swap_num HRR.out hi8.out hk8.out HMS.out⟩
  · have hq : (T % 2 == 1) = false := by simp [hodd]
    go_wp2_with fail
    clear cb
    refine (logs_any 7 X1.out HLL.out).mono ?_
    rintro e W3 ⟨rfl, vs3, hN3⟩
    have XF : Hid _ := hN3
    clear hN3 X1
    go_wp2
    go_end0
    obtain rfl : ns = ms := by
      rcases HMS.out with ⟨e, _⟩ | ⟨_, e⟩
      · exact absurd e hodd
      · exact e.symm
    exact ⟨rfl, _, _, XF.out.sub (fun p hp => List.mem_cons_of_mem _ hp), swap_num HRR.out hi8.out hk8.out HMS.out⟩
set_option maxRecDepth 100000 in
set_option maxHeartbeats 8000000 in
theorem step_k9 {B : Nat} {w : World} {rv : Value} {lr : List (Int × Int)} {g : Nat} {es : Nat → List Int} {ns : Nat → Nat} {vs : Value} {ll : List (Int × Int)} {bx : List (Nat × Obj)} {W : World} {i k c : Nat} {A Bv C N T : Int} {D : List Int} 
    (h : SB B w rv lr g es ns vs ll bx W) (hl : lr.length ≤ 900000) (hll : ll.length ≤ 900000) (ei : (i : Int) = A % 8) (ek : (k : Int) = Bv % 8) (ec : (c : Int) = C % 8) (kD : Key32 D) (hN : 0 ≤ N ∧ N < 4294967296) (hT : 0 ≤ T ∧ T < 18446744073709551616) (hR : ∀ j, j < 8 → num (es j) = ns j) :
    Calls Try.prog 17 #[.pointer (some ⟨g, 0, none⟩), rv, .agg (stA 9 A Bv C D N T)] W fun e w' => e = .returned (.tuple #[]) ∧ ∃ es' vs', SB B w rv (lr ++ []) g es' ns vs' (ll ++ []) bx w' ∧ ∀ j, j < 8 → num (es' j) = ns j := by
  have hi8 : Hid (i < 8) := by show i < 8; omega
  have hk8 : Hid (k < 8) := by show k < 8; omega
  have hc8 : Hid (c < 8) := by show c < 8; omega
  have LD : Hid (D.length = 32) := kD.len
  have CA : Hid (∀ w, Calls Try.prog 32 #[.int .i64 A] w fun e w' => e = .returned (.int .i64 (i : Int)) ∧ w' = w) := by rw [ei]; exact fun w => round_any A w
  have CB : Hid (∀ w, Calls Try.prog 32 #[.int .i64 Bv] w fun e w' => e = .returned (.int .i64 (k : Int)) ∧ w' = w) := by rw [ek]; exact fun w => round_any Bv w
  have CC : Hid (∀ w, Calls Try.prog 32 #[.int .i64 C] w fun e w' => e = .returned (.int .i64 (c : Int)) ∧ w' = w) := by rw [ec]; exact fun w => round_any C w
  have HL : Hid (lr.length ≤ 1000000) := by show lr.length ≤ 1000000; omega
  have HLL : Hid (ll.length ≤ 1000000) := by show ll.length ≤ 1000000; omega
  have HN : Hid (0 ≤ N ∧ N < 4294967296) := hN
  have HT : Hid (0 ≤ T ∧ T < 18446744073709551616) := hT
  have HRR : Hid (∀ j, j < 8 → num (es j) = ns j) := hR
  have LI : Hid (Lim (es i) ∧ Lim (es k) ∧ ns i < P ∧ ns k < P) := ⟨h.bn.lim i hi8.out, h.bn.lim k hk8.out, h.bn.nl i hi8.out, h.bn.nl k hk8.out⟩
  have KD : Hid (Key32 D) := kD
  have hE := h.new (stO 9 A Bv C D N T)
  obtain ⟨W0, hW⟩ : ∃ W0, W.alloc (.cells (stA 9 A Bv C D N T) 60) = W0 := ⟨_, rfl⟩
  rw [show W.alloc (stO 9 A Bv C D N T) = W0 from hW] at hE
  obtain ⟨gx, hg⟩ : ∃ gx, W.heap.size = gx := ⟨_, rfl⟩
  rw [hg] at hE
  have c0 : W0.cell? ⟨gx, 0, none⟩ = some (.int .i64 (9)) := by have := st_cell (hE.row (k := gx) (x := stO 9 A Bv C D N T) (by simp)) 0; rw [this, Array.getElem?_append_left (by simp; omega), Array.getElem?_append_left (by simp)]; rfl
  have c1 : W0.cell? ⟨gx, 1, none⟩ = some (.int .i64 A) := by have := st_cell (hE.row (k := gx) (x := stO 9 A Bv C D N T) (by simp)) 1; rw [this, Array.getElem?_append_left (by simp; omega), Array.getElem?_append_left (by simp)]; rfl
  have c2 : W0.cell? ⟨gx, 2, none⟩ = some (.int .i64 Bv) := by have := st_cell (hE.row (k := gx) (x := stO 9 A Bv C D N T) (by simp)) 2; rw [this, Array.getElem?_append_left (by simp; omega), Array.getElem?_append_left (by simp)]; rfl
  have c3 : W0.cell? ⟨gx, 3, none⟩ = some (.int .i64 C) := by have := st_cell (hE.row (k := gx) (x := stO 9 A Bv C D N T) (by simp)) 3; rw [this, Array.getElem?_append_left (by simp; omega), Array.getElem?_append_left (by simp)]; rfl
  have X0 : Hid (SB B w rv lr g es ns vs ll ((gx, stO 9 A Bv C D N T) :: bx) W0) := hE
  clear hE h hl hll ei ek ec kD hN hT hR
  generalize stA 9 A Bv C D N T = sva at *
  go_enter Try.func17, Try.ntmps17
  go_wp2_with fail
  try simp only [hg]
  refine (CA.out _).mono ?_
  rintro e w1 ⟨rfl, hw1⟩
  obtain rfl : W0 = w1 := hw1.symm
  go_wp2_with fail
  refine (CB.out _).mono ?_
  rintro e w1 ⟨rfl, hw1⟩
  obtain rfl : W0 = w1 := hw1.symm
  go_wp2_with fail
  refine (CC.out _).mono ?_
  rintro e w1 ⟨rfl, hw1⟩
  obtain rfl : W0 = w1 := hw1.symm
  go_wp2_with fail
  clear c0 c1 c2 c3 hW hg CA CB CC
  refine wp_as (c' := rgB38) (by kernel_rfl) ?_
  refine bk_r38 (K0 := 9) (A0 := A) (B0 := Bv) (C0 := C) (N := N) (T := T) (D := D) hi8 hk8 hc8 LD  (List.mem_cons_self ..) X0.out (fun _ _ d _ _ h => by cases d <;> exact h) ?_
  intro W1 hN1
  have X1 : Hid (SB B w rv lr g es ns vs ll ((gx, stO 9 A Bv C D N T) :: bx) W1) := hN1
  clear hN1 X0
  go_wp2_with fail
  refine wp_as (c' := rgB39) (by kernel_rfl) ?_
  refine bk_r39 (K0 := 9) (A0 := A) (B0 := Bv) (C0 := C) (N := N) (T := T) (D := D) hi8 hk8 hc8 LD  (List.mem_cons_self ..) X1.out (fun _ _ d _ _ h => by cases d <;> exact h) ?_
  intro W2 hN1
  have X2 : Hid (SB B w rv lr g es ns vs ll ((gx, stO 9 A Bv C D N T) :: bx) W2) := hN1
  clear hN1 X1
  have cb : W2.cell? ⟨gx, 37, none⟩ = some (.int .u64 T) := st_bit (X2.out.row (k := gx) (x := stO 9 A Bv C D N T) (by simp)) LD.out
  go_wp2_with fail
  refine (fswap_nil1 rv T none _).mono ?_
  rintro e W3 ⟨rfl, hw⟩
  obtain rfl : W2 = W3 := hw.symm
  go_wp2
  go_end0
  refine ⟨rfl, _, vs, ?_, HRR.out⟩
  rw [List.append_nil, List.append_nil]
  exact X2.out.sub (fun p hp => List.mem_cons_of_mem _ hp)
set_option maxRecDepth 100000 in
set_option maxHeartbeats 8000000 in
theorem step_k10 {B : Nat} {w : World} {rv : Value} {lr : List (Int × Int)} {g : Nat} {es : Nat → List Int} {ns : Nat → Nat} {vs : Value} {ll : List (Int × Int)} {bx : List (Nat × Obj)} {W : World} {i k c : Nat} {A Bv C N T : Int} {D : List Int} 
    (h : SB B w rv lr g es ns vs ll bx W) (hl : lr.length ≤ 900000) (hll : ll.length ≤ 900000) (ei : (i : Int) = A % 8) (ek : (k : Int) = Bv % 8) (ec : (c : Int) = C % 8) (kD : Key32 D) (hN : 0 ≤ N ∧ N < 4294967296) (hT : 0 ≤ T ∧ T < 18446744073709551616) (hR : ∀ j, j < 8 → num (es j) = ns j) :
    Calls Try.prog 17 #[.pointer (some ⟨g, 0, none⟩), rv, .agg (stA 10 A Bv C D N T)] W fun e w' => e = .returned (.tuple #[]) ∧ ∃ es' vs', SB B w rv (lr ++ []) g es' (upd ns c 0) vs' (ll ++ []) bx w' ∧ ∀ j, j < 8 → num (es' j) = (upd ns c 0) j := by
  have hi8 : Hid (i < 8) := by show i < 8; omega
  have hk8 : Hid (k < 8) := by show k < 8; omega
  have hc8 : Hid (c < 8) := by show c < 8; omega
  have LD : Hid (D.length = 32) := kD.len
  have CA : Hid (∀ w, Calls Try.prog 32 #[.int .i64 A] w fun e w' => e = .returned (.int .i64 (i : Int)) ∧ w' = w) := by rw [ei]; exact fun w => round_any A w
  have CB : Hid (∀ w, Calls Try.prog 32 #[.int .i64 Bv] w fun e w' => e = .returned (.int .i64 (k : Int)) ∧ w' = w) := by rw [ek]; exact fun w => round_any Bv w
  have CC : Hid (∀ w, Calls Try.prog 32 #[.int .i64 C] w fun e w' => e = .returned (.int .i64 (c : Int)) ∧ w' = w) := by rw [ec]; exact fun w => round_any C w
  have HL : Hid (lr.length ≤ 1000000) := by show lr.length ≤ 1000000; omega
  have HLL : Hid (ll.length ≤ 1000000) := by show ll.length ≤ 1000000; omega
  have HN : Hid (0 ≤ N ∧ N < 4294967296) := hN
  have HT : Hid (0 ≤ T ∧ T < 18446744073709551616) := hT
  have HRR : Hid (∀ j, j < 8 → num (es j) = ns j) := hR
  have LI : Hid (Lim (es i) ∧ Lim (es k) ∧ ns i < P ∧ ns k < P) := ⟨h.bn.lim i hi8.out, h.bn.lim k hk8.out, h.bn.nl i hi8.out, h.bn.nl k hk8.out⟩
  have KD : Hid (Key32 D) := kD
  have hcz : (c : Int) < 8 := by have := hc8.out; omega
  have hE := h.new (stO 10 A Bv C D N T)
  obtain ⟨W0, hW⟩ : ∃ W0, W.alloc (.cells (stA 10 A Bv C D N T) 60) = W0 := ⟨_, rfl⟩
  rw [show W.alloc (stO 10 A Bv C D N T) = W0 from hW] at hE
  obtain ⟨gx, hg⟩ : ∃ gx, W.heap.size = gx := ⟨_, rfl⟩
  rw [hg] at hE
  have c0 : W0.cell? ⟨gx, 0, none⟩ = some (.int .i64 (10)) := by have := st_cell (hE.row (k := gx) (x := stO 10 A Bv C D N T) (by simp)) 0; rw [this, Array.getElem?_append_left (by simp; omega), Array.getElem?_append_left (by simp)]; rfl
  have c1 : W0.cell? ⟨gx, 1, none⟩ = some (.int .i64 A) := by have := st_cell (hE.row (k := gx) (x := stO 10 A Bv C D N T) (by simp)) 1; rw [this, Array.getElem?_append_left (by simp; omega), Array.getElem?_append_left (by simp)]; rfl
  have c2 : W0.cell? ⟨gx, 2, none⟩ = some (.int .i64 Bv) := by have := st_cell (hE.row (k := gx) (x := stO 10 A Bv C D N T) (by simp)) 2; rw [this, Array.getElem?_append_left (by simp; omega), Array.getElem?_append_left (by simp)]; rfl
  have c3 : W0.cell? ⟨gx, 3, none⟩ = some (.int .i64 C) := by have := st_cell (hE.row (k := gx) (x := stO 10 A Bv C D N T) (by simp)) 3; rw [this, Array.getElem?_append_left (by simp; omega), Array.getElem?_append_left (by simp)]; rfl
  have X0 : Hid (SB B w rv lr g es ns vs ll ((gx, stO 10 A Bv C D N T) :: bx) W0) := hE
  clear hE h hl hll ei ek ec kD hN hT hR
  generalize stA 10 A Bv C D N T = sva at *
  go_enter Try.func17, Try.ntmps17
  go_wp2_with fail
  try simp only [hg]
  refine (CA.out _).mono ?_
  rintro e w1 ⟨rfl, hw1⟩
  obtain rfl : W0 = w1 := hw1.symm
  go_wp2_with fail
  refine (CB.out _).mono ?_
  rintro e w1 ⟨rfl, hw1⟩
  obtain rfl : W0 = w1 := hw1.symm
  go_wp2_with fail
  refine (CC.out _).mono ?_
  rintro e w1 ⟨rfl, hw1⟩
  obtain rfl : W0 = w1 := hw1.symm
  go_wp2_with (with_reducible refine at_list ?_; refine hold_store 47 (.tmp 334) (.tmp 331) rfl ?_)
  clear c0 c1 c2 c3 hW hg CA CB CC
  have lz0 : Lim [0, 0, 0, 0, 0] := lim_small 0 (by decide) (by decide)
  refine wpList_store_mid rfl 47 (.tmp 334) (.tmp 331) rfl g (c * 5) (VI .u64 [0, 0, 0, 0, 0]) rfl rfl (X0.out.bn.thereE hc8.out) (by kernel_rfl) (VI_one _ _) ?_
  have hN1 := X0.out.setE hc8.out lz0
  obtain ⟨W1, hW1⟩ : ∃ W', W0.setCells g (c * 5) (([0, 0, 0, 0, 0] : List Int).map (Value.int .u64)) = W' := ⟨_, rfl⟩
  rw [hW1] at hN1
  rw [show W0.setCells g (c * 5) (VI .u64 [0, 0, 0, 0, 0]).toList = W1 from hW1]
  have X1 : Hid (SB B w rv lr g (upd es c [0, 0, 0, 0, 0]) ns vs ll ((gx, stO 10 A Bv C D N T) :: bx) W1) := hN1
  clear hN1 hW1 X0
  go_wp2_with (with_reducible refine at_list ?_; refine hold_store 50 (.tmp 340) (.tmp 337) rfl ?_)
  refine wpList_store_mid rfl 50 (.tmp 340) (.tmp 337) rfl g (40 + c * 16) (VI .i64 (dg 0)) rfl rfl (by rw [VI_size, dg_len]; exact X1.out.bn.thereN hc8.out) (by rw [VI_size, dg_len]; kernel_rfl) (VI_one _ _) ?_
  have hN2 := X1.out.setN hc8.out (m := 0) (by decide)
  obtain ⟨W2, hW2⟩ : ∃ W', W1.setCells g (40 + c * 16) ((dg 0).map (Value.int .i64)) = W' := ⟨_, rfl⟩
  rw [hW2] at hN2
  rw [show W1.setCells g (40 + c * 16) (VI .i64 (dg 0)).toList = W2 from hW2]
  have X2 : Hid (SB B w rv lr g (upd es c [0, 0, 0, 0, 0]) (upd ns c 0) vs ll ((gx, stO 10 A Bv C D N T) :: bx) W2) := hN2
  clear hN2 hW2 X1
  go_wp2
  go_end0
  refine ⟨rfl, _, vs, ?_, upd_num HRR.out num_zero⟩
  rw [List.append_nil, List.append_nil]
  exact X2.out.sub (fun p hp => List.mem_cons_of_mem _ hp)
set_option maxRecDepth 100000 in
set_option maxHeartbeats 8000000 in
theorem step_k0 {B : Nat} {w : World} {rv : Value} {lr : List (Int × Int)} {g : Nat} {es : Nat → List Int} {ns : Nat → Nat} {vs : Value} {ll : List (Int × Int)} {bx : List (Nat × Obj)} {W : World} {i k c : Nat} {A Bv C N T : Int} {D : List Int} {K : Int} (hK : ¬ (1 ≤ K ∧ K ≤ 10))
    (h : SB B w rv lr g es ns vs ll bx W) (hl : lr.length ≤ 900000) (hll : ll.length ≤ 900000) (ei : (i : Int) = A % 8) (ek : (k : Int) = Bv % 8) (ec : (c : Int) = C % 8) (kD : Key32 D) (hN : 0 ≤ N ∧ N < 4294967296) (hT : 0 ≤ T ∧ T < 18446744073709551616) (hR : ∀ j, j < 8 → num (es j) = ns j) :
    Calls Try.prog 17 #[.pointer (some ⟨g, 0, none⟩), rv, .agg (stA K A Bv C D N T)] W fun e w' => e = .returned (.tuple #[]) ∧ ∃ es' vs', SB B w rv (lr ++ []) g es' ns vs' (ll ++ []) bx w' ∧ ∀ j, j < 8 → num (es' j) = ns j := by
  have hi8 : Hid (i < 8) := by show i < 8; omega
  have hk8 : Hid (k < 8) := by show k < 8; omega
  have hc8 : Hid (c < 8) := by show c < 8; omega
  have LD : Hid (D.length = 32) := kD.len
  have CA : Hid (∀ w, Calls Try.prog 32 #[.int .i64 A] w fun e w' => e = .returned (.int .i64 (i : Int)) ∧ w' = w) := by rw [ei]; exact fun w => round_any A w
  have CB : Hid (∀ w, Calls Try.prog 32 #[.int .i64 Bv] w fun e w' => e = .returned (.int .i64 (k : Int)) ∧ w' = w) := by rw [ek]; exact fun w => round_any Bv w
  have CC : Hid (∀ w, Calls Try.prog 32 #[.int .i64 C] w fun e w' => e = .returned (.int .i64 (c : Int)) ∧ w' = w) := by rw [ec]; exact fun w => round_any C w
  have HL : Hid (lr.length ≤ 1000000) := by show lr.length ≤ 1000000; omega
  have HLL : Hid (ll.length ≤ 1000000) := by show ll.length ≤ 1000000; omega
  have HN : Hid (0 ≤ N ∧ N < 4294967296) := hN
  have HT : Hid (0 ≤ T ∧ T < 18446744073709551616) := hT
  have HRR : Hid (∀ j, j < 8 → num (es j) = ns j) := hR
  have LI : Hid (Lim (es i) ∧ Lim (es k) ∧ ns i < P ∧ ns k < P) := ⟨h.bn.lim i hi8.out, h.bn.lim k hk8.out, h.bn.nl i hi8.out, h.bn.nl k hk8.out⟩
  have KD : Hid (Key32 D) := kD
  have q1 : (K == 1) = false := by simp; omega
  have q2 : (K == 2) = false := by simp; omega
  have q3 : (K == 3) = false := by simp; omega
  have q4 : (K == 4) = false := by simp; omega
  have q5 : (K == 5) = false := by simp; omega
  have q6 : (K == 6) = false := by simp; omega
  have q7 : (K == 7) = false := by simp; omega
  have q8 : (K == 8) = false := by simp; omega
  have q9 : (K == 9) = false := by simp; omega
  have q10 : (K == 10) = false := by simp; omega
  clear hK
  have hE := h.new (stO K A Bv C D N T)
  obtain ⟨W0, hW⟩ : ∃ W0, W.alloc (.cells (stA K A Bv C D N T) 60) = W0 := ⟨_, rfl⟩
  rw [show W.alloc (stO K A Bv C D N T) = W0 from hW] at hE
  obtain ⟨gx, hg⟩ : ∃ gx, W.heap.size = gx := ⟨_, rfl⟩
  rw [hg] at hE
  have c0 : W0.cell? ⟨gx, 0, none⟩ = some (.int .i64 (K)) := by have := st_cell (hE.row (k := gx) (x := stO K A Bv C D N T) (by simp)) 0; rw [this, Array.getElem?_append_left (by simp; omega), Array.getElem?_append_left (by simp)]; rfl
  have c1 : W0.cell? ⟨gx, 1, none⟩ = some (.int .i64 A) := by have := st_cell (hE.row (k := gx) (x := stO K A Bv C D N T) (by simp)) 1; rw [this, Array.getElem?_append_left (by simp; omega), Array.getElem?_append_left (by simp)]; rfl
  have c2 : W0.cell? ⟨gx, 2, none⟩ = some (.int .i64 Bv) := by have := st_cell (hE.row (k := gx) (x := stO K A Bv C D N T) (by simp)) 2; rw [this, Array.getElem?_append_left (by simp; omega), Array.getElem?_append_left (by simp)]; rfl
  have c3 : W0.cell? ⟨gx, 3, none⟩ = some (.int .i64 C) := by have := st_cell (hE.row (k := gx) (x := stO K A Bv C D N T) (by simp)) 3; rw [this, Array.getElem?_append_left (by simp; omega), Array.getElem?_append_left (by simp)]; rfl
  have X0 : Hid (SB B w rv lr g es ns vs ll ((gx, stO K A Bv C D N T) :: bx) W0) := hE
  clear hE h hl hll ei ek ec kD hN hT hR
  generalize stA K A Bv C D N T = sva at *
  go_enter Try.func17, Try.ntmps17
  go_wp2_with fail
  try simp only [hg]
  refine (CA.out _).mono ?_
  rintro e w1 ⟨rfl, hw1⟩
  obtain rfl : W0 = w1 := hw1.symm
  go_wp2_with fail
  refine (CB.out _).mono ?_
  rintro e w1 ⟨rfl, hw1⟩
  obtain rfl : W0 = w1 := hw1.symm
  go_wp2_with fail
  refine (CC.out _).mono ?_
  rintro e w1 ⟨rfl, hw1⟩
  obtain rfl : W0 = w1 := hw1.symm
  go_wp2_with fail
  clear c0 c1 c2 c3 hW hg CA CB CC
  go_wp2
  go_end0
  refine ⟨rfl, _, vs, ?_, HRR.out⟩
  rw [List.append_nil, List.append_nil]
  exact X0.out.sub (fun p hp => List.mem_cons_of_mem _ hp)
end Go.Proofs.Ytacofgmnmofkpaa
