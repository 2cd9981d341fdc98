import Derived.Test.YtacofgmnmofkpaaMfan
import Derived.Test.YtacofgmnmofkpaaMfao
import Derived.Test.YtacofgmnmofkpaaMfap
import Derived.Test.YtacofgmnmofkpaaMfaq
import Derived.Test.YtacofgmnmofkpaaMfar
import Derived.Test.YtacofgmnmofkpaaMfaj
import Derived.Test.YtacofgmnmofkpaaMfah
import Derived.Test.YtacofgmnmofkpaaMfai
namespace Go.Proofs.Ytacofgmnmofkpaa
set_option linter.unusedSimpArgs false
set_option linter.unusedVariables false
open Go.ChangeShapes Go.WideShapes Go.ChangeAt Go.RowKit Go.Pin Go.Fld
theorem upd_num {es : Nat → List Int} {ns : Nat → Nat} {c m : Nat} {z : List Int} (h : ∀ j, j < 8 → num (es j) = ns j) (hz : num z = m) : ∀ j, j < 8 → num (upd es c z j) = upd ns c m j := by
  intro j hj
  unfold upd
  split
  · exact hz
  · exact h j hj
theorem swap_num {es : Nat → List Int} {ns ms : Nat → Nat} {i k : Nat} {T : Int} (h : ∀ j, j < 8 → num (es j) = ns j) (hi : i < 8) (hk : k < 8) (hm : (T % 2 = 1 ∧ ms = upd (upd ns i (ns k)) k (ns i)) ∨ (¬ T % 2 = 1 ∧ ms = ns)) : ∀ j, j < 8 → num (upd (upd es i (swp T (es i) (es k))) k (swp T (es k) (es i)) j) = ms j := by
  intro j hj
  rcases hm with ⟨ho, rfl⟩ | ⟨ho, rfl⟩
  · unfold upd swp
    rw [if_pos ho, if_pos ho]
    split
    · exact h i hi
    · split
      · exact h k hk
      · exact h j hj
  · unfold upd swp
    rw [if_neg ho, if_neg ho]
    split
    · rename_i e; subst e; exact h j hj
    · split
      · rename_i e; subst e; exact h j hj
      · exact h j hj
set_option maxRecDepth 100000 in
set_option maxHeartbeats 8000000 in
theorem step_k1 {B : Nat} {w : World} {rv : Value} {lr : List (Int × Int)} {g : Nat} {es : Nat → List Int} {ns : Nat → Nat} {vs : Value} {ll : List (Int × Int)} {bx : List (Nat × Obj)} {W : World} {i k c : Nat} {A Bv C N T : Int} {D : List Int} 
    (h : SB B w rv lr g es ns vs ll bx W) (hl : lr.length ≤ 900000) (hll : ll.length ≤ 900000) (ei : (i : Int) = A % 8) (ek : (k : Int) = Bv % 8) (ec : (c : Int) = C % 8) (kD : Key32 D) (hN : 0 ≤ N ∧ N < 4294967296) (hT : 0 ≤ T ∧ T < 18446744073709551616) (hR : ∀ j, j < 8 → num (es j) = ns j) :
    Calls Try.prog 17 #[.pointer (some ⟨g, 0, none⟩), rv, .agg (stA 1 A Bv C D N T)] W fun e w' => e = .returned (.tuple #[]) ∧ ∃ es' vs', SB B w rv (lr ++ []) g es' (upd ns c (nb D % 2 ^ 255 % P)) vs' (ll ++ []) bx w' ∧ ∀ j, j < 8 → num (es' j) = (upd ns c (nb D % 2 ^ 255 % P)) j := by
  have hi8 : Hid (i < 8) := by show i < 8; omega
  have hk8 : Hid (k < 8) := by show k < 8; omega
  have hc8 : Hid (c < 8) := by show c < 8; omega
  have LD : Hid (D.length = 32) := kD.len
  have CA : Hid (∀ w, Calls Try.prog 32 #[.int .i64 A] w fun e w' => e = .returned (.int .i64 (i : Int)) ∧ w' = w) := by rw [ei]; exact fun w => round_any A w
  have CB : Hid (∀ w, Calls Try.prog 32 #[.int .i64 Bv] w fun e w' => e = .returned (.int .i64 (k : Int)) ∧ w' = w) := by rw [ek]; exact fun w => round_any Bv w
  have CC : Hid (∀ w, Calls Try.prog 32 #[.int .i64 C] w fun e w' => e = .returned (.int .i64 (c : Int)) ∧ w' = w) := by rw [ec]; exact fun w => round_any C w
  have HL : Hid (lr.length ≤ 1000000) := by show lr.length ≤ 1000000; omega
  have HLL : Hid (ll.length ≤ 1000000) := by show ll.length ≤ 1000000; omega
  have HN : Hid (0 ≤ N ∧ N < 4294967296) := hN
  have HT : Hid (0 ≤ T ∧ T < 18446744073709551616) := hT
  have HRR : Hid (∀ j, j < 8 → num (es j) = ns j) := hR
  have LI : Hid (Lim (es i) ∧ Lim (es k) ∧ ns i < P ∧ ns k < P) := ⟨h.bn.lim i hi8.out, h.bn.lim k hk8.out, h.bn.nl i hi8.out, h.bn.nl k hk8.out⟩
  have KD : Hid (Key32 D) := kD
  obtain ⟨z0, z1, z2, z3, z4, lz0, nz, HC0⟩ := dec_f kD
  obtain ⟨z, hz⟩ : ∃ z, [z0, z1, z2, z3, z4] = z := ⟨_, rfl⟩
  have NZ : Hid (num z = nb D % 2 ^ 255 % P) := by rw [← hz]; exact nz
  have lz : Hid (Lim z) := by rw [← hz]; exact lz0
  have HC : Hid (∀ w, Calls Try.prog 21 #[.agg (VI .u8 D)] w fun e w' => e = .returned (.agg (VI .u64 z)) ∧ Below w.heap.size w w') := by rw [← hz]; exact HC0
  have HM : Hid (nb D % 2 ^ 255 % P < P) := Nat.mod_lt _ (by decide)
  have HD : Hid (∀ w, Calls Try.prog 33 #[.agg (VI .u8 D)] w fun e w' => e = .returned (.agg (VI .i64 (dg (nb D % 2 ^ 255 % P)))) ∧ Below w.heap.size w w') := fun w => rdecode_any D kD w
  clear lz0 nz hz HC0
  have hE := h.new (stO 1 A Bv C D N T)
  obtain ⟨W0, hW⟩ : ∃ W0, W.alloc (.cells (stA 1 A Bv C D N T) 60) = W0 := ⟨_, rfl⟩
  rw [show W.alloc (stO 1 A Bv C D N T) = W0 from hW] at hE
  obtain ⟨gx, hg⟩ : ∃ gx, W.heap.size = gx := ⟨_, rfl⟩
  rw [hg] at hE
  have c0 : W0.cell? ⟨gx, 0, none⟩ = some (.int .i64 (1)) := by have := st_cell (hE.row (k := gx) (x := stO 1 A Bv C D N T) (by simp)) 0; rw [this, Array.getElem?_append_left (by simp; omega), Array.getElem?_append_left (by simp)]; rfl
  have c1 : W0.cell? ⟨gx, 1, none⟩ = some (.int .i64 A) := by have := st_cell (hE.row (k := gx) (x := stO 1 A Bv C D N T) (by simp)) 1; rw [this, Array.getElem?_append_left (by simp; omega), Array.getElem?_append_left (by simp)]; rfl
  have c2 : W0.cell? ⟨gx, 2, none⟩ = some (.int .i64 Bv) := by have := st_cell (hE.row (k := gx) (x := stO 1 A Bv C D N T) (by simp)) 2; rw [this, Array.getElem?_append_left (by simp; omega), Array.getElem?_append_left (by simp)]; rfl
  have c3 : W0.cell? ⟨gx, 3, none⟩ = some (.int .i64 C) := by have := st_cell (hE.row (k := gx) (x := stO 1 A Bv C D N T) (by simp)) 3; rw [this, Array.getElem?_append_left (by simp; omega), Array.getElem?_append_left (by simp)]; rfl
  have X0 : Hid (SB B w rv lr g es ns vs ll ((gx, stO 1 A Bv C D N T) :: bx) W0) := hE
  clear hE h hl hll ei ek ec kD hN hT hR
  generalize stA 1 A Bv C D N T = sva at *
  go_enter Try.func17, Try.ntmps17
  go_wp2_with fail
  try simp only [hg]
  refine (CA.out _).mono ?_
  rintro e w1 ⟨rfl, hw1⟩
  obtain rfl : W0 = w1 := hw1.symm
  go_wp2_with fail
  refine (CB.out _).mono ?_
  rintro e w1 ⟨rfl, hw1⟩
  obtain rfl : W0 = w1 := hw1.symm
  go_wp2_with fail
  refine (CC.out _).mono ?_
  rintro e w1 ⟨rfl, hw1⟩
  obtain rfl : W0 = w1 := hw1.symm
  go_wp2_with fail
  clear c0 c1 c2 c3 hW hg CA CB CC
  refine wp_as (c' := rgB6) (by kernel_rfl) ?_
  refine bk_r6 (K0 := 1) (A0 := A) (B0 := Bv) (C0 := C) (N := N) (T := T) (D := D) hi8 hk8 hc8 LD HC lz (List.mem_cons_self ..) X0.out (fun _ _ d _ _ h => by cases d <;> exact h) ?_
  intro W1 hN1
  have X1 : Hid (SB B w rv lr g (upd es c z) ns vs ll ((gx, stO 1 A Bv C D N T) :: bx) W1) := hN1
  clear hN1 X0
  go_wp2_with fail
  refine wp_as (c' := rgB7) (by kernel_rfl) ?_
  refine bk_r7 (K0 := 1) (A0 := A) (B0 := Bv) (C0 := C) (N := N) (T := T) (D := D) hi8 hk8 hc8 LD HD HM (List.mem_cons_self ..) X1.out (fun _ _ d _ _ h => by cases d <;> exact h) ?_
  intro W2 hN1
  have X2 : Hid (SB B w rv lr g (upd es c z) (upd ns c (nb D % 2 ^ 255 % P)) vs ll ((gx, stO 1 A Bv C D N T) :: bx) W2) := hN1
  clear hN1 X1
  go_wp2
  go_end0
  refine ⟨rfl, _, vs, ?_, upd_num HRR.out NZ.out⟩
  rw [List.append_nil, List.append_nil]
  exact X2.out.sub (fun p hp => List.mem_cons_of_mem _ hp)
set_option maxRecDepth 100000 in
set_option maxHeartbeats 8000000 in
theorem step_k2 {B : Nat} {w : World} {rv : Value} {lr : List (Int × Int)} {g : Nat} {es : Nat → List Int} {ns : Nat → Nat} {vs : Value} {ll : List (Int × Int)} {bx : List (Nat × Obj)} {W : World} {i k c : Nat} {A Bv C N T : Int} {D : List Int} 
    (h : SB B w rv lr g es ns vs ll bx W) (hl : lr.length ≤ 900000) (hll : ll.length ≤ 900000) (ei : (i : Int) = A % 8) (ek : (k : Int) = Bv % 8) (ec : (c : Int) = C % 8) (kD : Key32 D) (hN : 0 ≤ N ∧ N < 4294967296) (hT : 0 ≤ T ∧ T < 18446744073709551616) (hR : ∀ j, j < 8 → num (es j) = ns j) :
    Calls Try.prog 17 #[.pointer (some ⟨g, 0, none⟩), rv, .agg (stA 2 A Bv C D N T)] W fun e w' => e = .returned (.tuple #[]) ∧ ∃ es' vs', SB B w rv (lr ++ [(3, 1)]) g es' (upd ns c ((ns i + ns k) % P)) vs' (ll ++ [(3, 1)]) bx w' ∧ ∀ j, j < 8 → num (es' j) = (upd ns c ((ns i + ns k) % P)) j := by
  have hi8 : Hid (i < 8) := by show i < 8; omega
  have hk8 : Hid (k < 8) := by show k < 8; omega
  have hc8 : Hid (c < 8) := by show c < 8; omega
  have LD : Hid (D.length = 32) := kD.len
  have CA : Hid (∀ w, Calls Try.prog 32 #[.int .i64 A] w fun e w' => e = .returned (.int .i64 (i : Int)) ∧ w' = w) := by rw [ei]; exact fun w => round_any A w
  have CB : Hid (∀ w, Calls Try.prog 32 #[.int .i64 Bv] w fun e w' => e = .returned (.int .i64 (k : Int)) ∧ w' = w) := by rw [ek]; exact fun w => round_any Bv w
  have CC : Hid (∀ w, Calls Try.prog 32 #[.int .i64 C] w fun e w' => e = .returned (.int .i64 (c : Int)) ∧ w' = w) := by rw [ec]; exact fun w => round_any C w
  have HL : Hid (lr.length ≤ 1000000) := by show lr.length ≤ 1000000; omega
  have HLL : Hid (ll.length ≤ 1000000) := by show ll.length ≤ 1000000; omega
  have HN : Hid (0 ≤ N ∧ N < 4294967296) := hN
  have HT : Hid (0 ≤ T ∧ T < 18446744073709551616) := hT
  have HRR : Hid (∀ j, j < 8 → num (es j) = ns j) := hR
  have LI : Hid (Lim (es i) ∧ Lim (es k) ∧ ns i < P ∧ ns k < P) := ⟨h.bn.lim i hi8.out, h.bn.lim k hk8.out, h.bn.nl i hi8.out, h.bn.nl k hk8.out⟩
  have KD : Hid (Key32 D) := kD
  obtain ⟨z, lz0, nz, HC⟩ := o_add LI.out.1 LI.out.2.1
  have NZ : Hid (num z = (ns i + ns k) % P) := by show num z = (ns i + ns k) % P; rw [nz]; rw [HRR.out i hi8.out, HRR.out k hk8.out]
  have lz : Hid (Lim z) := lz0
  have HM : Hid ((ns i + ns k) % P < P) := Nat.mod_lt _ (by decide)
  have HD : Hid (∀ w, Calls Try.prog 35 #[.agg (VI .i64 (dg (ns i))), .agg (VI .i64 (dg (ns k)))] w fun e w' => e = .returned (.agg (VI .i64 (dg ((ns i + ns k) % P)))) ∧ Below w.heap.size w w') := fun w => radd_any _ _ LI.out.2.2.1 LI.out.2.2.2 w
  clear lz0 nz
  have hE := h.new (stO 2 A Bv C D N T)
  obtain ⟨W0, hW⟩ : ∃ W0, W.alloc (.cells (stA 2 A Bv C D N T) 60) = W0 := ⟨_, rfl⟩
  rw [show W.alloc (stO 2 A Bv C D N T) = W0 from hW] at hE
  obtain ⟨gx, hg⟩ : ∃ gx, W.heap.size = gx := ⟨_, rfl⟩
  rw [hg] at hE
  have c0 : W0.cell? ⟨gx, 0, none⟩ = some (.int .i64 (2)) := by have := st_cell (hE.row (k := gx) (x := stO 2 A Bv C D N T) (by simp)) 0; rw [this, Array.getElem?_append_left (by simp; omega), Array.getElem?_append_left (by simp)]; rfl
  have c1 : W0.cell? ⟨gx, 1, none⟩ = some (.int .i64 A) := by have := st_cell (hE.row (k := gx) (x := stO 2 A Bv C D N T) (by simp)) 1; rw [this, Array.getElem?_append_left (by simp; omega), Array.getElem?_append_left (by simp)]; rfl
  have c2 : W0.cell? ⟨gx, 2, none⟩ = some (.int .i64 Bv) := by have := st_cell (hE.row (k := gx) (x := stO 2 A Bv C D N T) (by simp)) 2; rw [this, Array.getElem?_append_left (by simp; omega), Array.getElem?_append_left (by simp)]; rfl
  have c3 : W0.cell? ⟨gx, 3, none⟩ = some (.int .i64 C) := by have := st_cell (hE.row (k := gx) (x := stO 2 A Bv C D N T) (by simp)) 3; rw [this, Array.getElem?_append_left (by simp; omega), Array.getElem?_append_left (by simp)]; rfl
  have X0 : Hid (SB B w rv lr g es ns vs ll ((gx, stO 2 A Bv C D N T) :: bx) W0) := hE
  clear hE h hl hll ei ek ec kD hN hT hR
  generalize stA 2 A Bv C D N T = sva at *
  go_enter Try.func17, Try.ntmps17
  go_wp2_with fail
  try simp only [hg]
  refine (CA.out _).mono ?_
  rintro e w1 ⟨rfl, hw1⟩
  obtain rfl : W0 = w1 := hw1.symm
  go_wp2_with fail
  refine (CB.out _).mono ?_
  rintro e w1 ⟨rfl, hw1⟩
  obtain rfl : W0 = w1 := hw1.symm
  go_wp2_with fail
  refine (CC.out _).mono ?_
  rintro e w1 ⟨rfl, hw1⟩
  obtain rfl : W0 = w1 := hw1.symm
  go_wp2_with fail
  clear c0 c1 c2 c3 hW hg CA CB CC
  refine wp_as (c' := rgB9) (by kernel_rfl) ?_
  refine bk_r9 (K0 := 2) (A0 := A) (B0 := Bv) (C0 := C) (N := N) (T := T) (D := D) hi8 hk8 hc8 LD HC HL lz (List.mem_cons_self ..) X0.out (fun _ _ d _ _ h => by cases d <;> exact h) ?_
  intro W1 hN1
  have X1 : Hid (SB B w rv (lr ++ [(3, 1)]) g (upd es c z) ns vs ll ((gx, stO 2 A Bv C D N T) :: bx) W1) := hN1
  clear hN1 X0
  go_wp2_with fail
  refine wp_as (c' := rgB10) (by kernel_rfl) ?_
  refine bk_r10 (K0 := 2) (A0 := A) (B0 := Bv) (C0 := C) (N := N) (T := T) (D := D) hi8 hk8 hc8 LD HD HM (List.mem_cons_self ..) X1.out (fun _ _ d _ _ h => by cases d <;> exact h) ?_
  intro W2 hN2
  have X2 : Hid (SB B w rv (lr ++ [(3, 1)]) g (upd es c z) (upd ns c ((ns i + ns k) % P)) vs ll ((gx, stO 2 A Bv C D N T) :: bx) W2) := hN2
  clear hN2 X1
  go_wp2_with fail
  refine (logs_any 1 X2.out HLL.out).mono ?_
  rintro e W3 ⟨rfl, vs3, hN3⟩
  have XF : Hid _ := hN3
  clear hN3 X2
  go_wp2
  go_end0
  exact ⟨rfl, _, _, XF.out.sub (fun p hp => List.mem_cons_of_mem _ hp), upd_num HRR.out NZ.out⟩
set_option maxRecDepth 100000 in
set_option maxHeartbeats 8000000 in
theorem step_k3 {B : Nat} {w : World} {rv : Value} {lr : List (Int × Int)} {g : Nat} {es : Nat → List Int} {ns : Nat → Nat} {vs : Value} {ll : List (Int × Int)} {bx : List (Nat × Obj)} {W : World} {i k c : Nat} {A Bv C N T : Int} {D : List Int} 
    (h : SB B w rv lr g es ns vs ll bx W) (hl : lr.length ≤ 900000) (hll : ll.length ≤ 900000) (ei : (i : Int) = A % 8) (ek : (k : Int) = Bv % 8) (ec : (c : Int) = C % 8) (kD : Key32 D) (hN : 0 ≤ N ∧ N < 4294967296) (hT : 0 ≤ T ∧ T < 18446744073709551616) (hR : ∀ j, j < 8 → num (es j) = ns j) :
    Calls Try.prog 17 #[.pointer (some ⟨g, 0, none⟩), rv, .agg (stA 3 A Bv C D N T)] W fun e w' => e = .returned (.tuple #[]) ∧ ∃ es' vs', SB B w rv (lr ++ [(3, 2)]) g es' (upd ns c ((ns i + (P - ns k)) % P)) vs' (ll ++ [(3, 2)]) bx w' ∧ ∀ j, j < 8 → num (es' j) = (upd ns c ((ns i + (P - ns k)) % P)) j := by
  have hi8 : Hid (i < 8) := by show i < 8; omega
  have hk8 : Hid (k < 8) := by show k < 8; omega
  have hc8 : Hid (c < 8) := by show c < 8; omega
  have LD : Hid (D.length = 32) := kD.len
  have CA : Hid (∀ w, Calls Try.prog 32 #[.int .i64 A] w fun e w' => e = .returned (.int .i64 (i : Int)) ∧ w' = w) := by rw [ei]; exact fun w => round_any A w
  have CB : Hid (∀ w, Calls Try.prog 32 #[.int .i64 Bv] w fun e w' => e = .returned (.int .i64 (k : Int)) ∧ w' = w) := by rw [ek]; exact fun w => round_any Bv w
  have CC : Hid (∀ w, Calls Try.prog 32 #[.int .i64 C] w fun e w' => e = .returned (.int .i64 (c : Int)) ∧ w' = w) := by rw [ec]; exact fun w => round_any C w
  have HL : Hid (lr.length ≤ 1000000) := by show lr.length ≤ 1000000; omega
  have HLL : Hid (ll.length ≤ 1000000) := by show ll.length ≤ 1000000; omega
  have HN : Hid (0 ≤ N ∧ N < 4294967296) := hN
  have HT : Hid (0 ≤ T ∧ T < 18446744073709551616) := hT
  have HRR : Hid (∀ j, j < 8 → num (es j) = ns j) := hR
  have LI : Hid (Lim (es i) ∧ Lim (es k) ∧ ns i < P ∧ ns k < P) := ⟨h.bn.lim i hi8.out, h.bn.lim k hk8.out, h.bn.nl i hi8.out, h.bn.nl k hk8.out⟩
  have KD : Hid (Key32 D) := kD
  obtain ⟨z, lz0, nz, HC⟩ := o_sub LI.out.1 LI.out.2.1
  have NZ : Hid (num z = (ns i + (P - ns k)) % P) := by show num z = (ns i + (P - ns k)) % P; rw [nz]; rw [HRR.out i hi8.out, HRR.out k hk8.out]
  have lz : Hid (Lim z) := lz0
  have HM : Hid ((ns i + (P - ns k)) % P < P) := Nat.mod_lt _ (by decide)
  have HD : Hid (∀ w, Calls Try.prog 38 #[.agg (VI .i64 (dg (ns i))), .agg (VI .i64 (dg (ns k)))] w fun e w' => e = .returned (.agg (VI .i64 (dg ((ns i + (P - ns k)) % P)))) ∧ Below w.heap.size w w') := fun w => rsub_any _ _ LI.out.2.2.1 LI.out.2.2.2 w
  clear lz0 nz
  have hE := h.new (stO 3 A Bv C D N T)
  obtain ⟨W0, hW⟩ : ∃ W0, W.alloc (.cells (stA 3 A Bv C D N T) 60) = W0 := ⟨_, rfl⟩
  rw [show W.alloc (stO 3 A Bv C D N T) = W0 from hW] at hE
  obtain ⟨gx, hg⟩ : ∃ gx, W.heap.size = gx := ⟨_, rfl⟩
  rw [hg] at hE
  have c0 : W0.cell? ⟨gx, 0, none⟩ = some (.int .i64 (3)) := by have := st_cell (hE.row (k := gx) (x := stO 3 A Bv C D N T) (by simp)) 0; rw [this, Array.getElem?_append_left (by simp; omega), Array.getElem?_append_left (by simp)]; rfl
  have c1 : W0.cell? ⟨gx, 1, none⟩ = some (.int .i64 A) := by have := st_cell (hE.row (k := gx) (x := stO 3 A Bv C D N T) (by simp)) 1; rw [this, Array.getElem?_append_left (by simp; omega), Array.getElem?_append_left (by simp)]; rfl
  have c2 : W0.cell? ⟨gx, 2, none⟩ = some (.int .i64 Bv) := by have := st_cell (hE.row (k := gx) (x := stO 3 A Bv C D N T) (by simp)) 2; rw [this, Array.getElem?_append_left (by simp; omega), Array.getElem?_append_left (by simp)]; rfl
  have c3 : W0.cell? ⟨gx, 3, none⟩ = some (.int .i64 C) := by have := st_cell (hE.row (k := gx) (x := stO 3 A Bv C D N T) (by simp)) 3; rw [this, Array.getElem?_append_left (by simp; omega), Array.getElem?_append_left (by simp)]; rfl
  have X0 : Hid (SB B w rv lr g es ns vs ll ((gx, stO 3 A Bv C D N T) :: bx) W0) := hE
  clear hE h hl hll ei ek ec kD hN hT hR
  generalize stA 3 A Bv C D N T = sva at *
  go_enter Try.func17, Try.ntmps17
  go_wp2_with fail
  try simp only [hg]
  refine (CA.out _).mono ?_
  rintro e w1 ⟨rfl, hw1⟩
  obtain rfl : W0 = w1 := hw1.symm
  go_wp2_with fail
  refine (CB.out _).mono ?_
  rintro e w1 ⟨rfl, hw1⟩
  obtain rfl : W0 = w1 := hw1.symm
  go_wp2_with fail
  refine (CC.out _).mono ?_
  rintro e w1 ⟨rfl, hw1⟩
  obtain rfl : W0 = w1 := hw1.symm
  go_wp2_with fail
  clear c0 c1 c2 c3 hW hg CA CB CC
  refine wp_as (c' := rgB13) (by kernel_rfl) ?_
  refine bk_r13 (K0 := 3) (A0 := A) (B0 := Bv) (C0 := C) (N := N) (T := T) (D := D) hi8 hk8 hc8 LD HC HL lz (List.mem_cons_self ..) X0.out (fun _ _ d _ _ h => by cases d <;> exact h) ?_
  intro W1 hN1
  have X1 : Hid (SB B w rv (lr ++ [(3, 2)]) g (upd es c z) ns vs ll ((gx, stO 3 A Bv C D N T) :: bx) W1) := hN1
  clear hN1 X0
  go_wp2_with fail
  refine wp_as (c' := rgB14) (by kernel_rfl) ?_
  refine bk_r14 (K0 := 3) (A0 := A) (B0 := Bv) (C0 := C) (N := N) (T := T) (D := D) hi8 hk8 hc8 LD HD HM (List.mem_cons_self ..) X1.out (fun _ _ d _ _ h => by cases d <;> exact h) ?_
  intro W2 hN2
  have X2 : Hid (SB B w rv (lr ++ [(3, 2)]) g (upd es c z) (upd ns c ((ns i + (P - ns k)) % P)) vs ll ((gx, stO 3 A Bv C D N T) :: bx) W2) := hN2
  clear hN2 X1
  go_wp2_with fail
  refine (logs_any 2 X2.out HLL.out).mono ?_
  rintro e W3 ⟨rfl, vs3, hN3⟩
  have XF : Hid _ := hN3
  clear hN3 X2
  go_wp2
  go_end0
  exact ⟨rfl, _, _, XF.out.sub (fun p hp => List.mem_cons_of_mem _ hp), upd_num HRR.out NZ.out⟩
set_option maxRecDepth 100000 in
set_option maxHeartbeats 8000000 in
theorem step_k4 {B : Nat} {w : World} {rv : Value} {lr : List (Int × Int)} {g : Nat} {es : Nat → List Int} {ns : Nat → Nat} {vs : Value} {ll : List (Int × Int)} {bx : List (Nat × Obj)} {W : World} {i k c : Nat} {A Bv C N T : Int} {D : List Int} 
    (h : SB B w rv lr g es ns vs ll bx W) (hl : lr.length ≤ 900000) (hll : ll.length ≤ 900000) (ei : (i : Int) = A % 8) (ek : (k : Int) = Bv % 8) (ec : (c : Int) = C % 8) (kD : Key32 D) (hN : 0 ≤ N ∧ N < 4294967296) (hT : 0 ≤ T ∧ T < 18446744073709551616) (hR : ∀ j, j < 8 → num (es j) = ns j) :
    Calls Try.prog 17 #[.pointer (some ⟨g, 0, none⟩), rv, .agg (stA 4 A Bv C D N T)] W fun e w' => e = .returned (.tuple #[]) ∧ ∃ es' vs', SB B w rv (lr ++ [(3, 3)]) g es' (upd ns c (ns i * ns k % P)) vs' (ll ++ [(3, 3)]) bx w' ∧ ∀ j, j < 8 → num (es' j) = (upd ns c (ns i * ns k % P)) j := by
  have hi8 : Hid (i < 8) := by show i < 8; omega
  have hk8 : Hid (k < 8) := by show k < 8; omega
  have hc8 : Hid (c < 8) := by show c < 8; omega
  have LD : Hid (D.length = 32) := kD.len
  have CA : Hid (∀ w, Calls Try.prog 32 #[.int .i64 A] w fun e w' => e = .returned (.int .i64 (i : Int)) ∧ w' = w) := by rw [ei]; exact fun w => round_any A w
  have CB : Hid (∀ w, Calls Try.prog 32 #[.int .i64 Bv] w fun e w' => e = .returned (.int .i64 (k : Int)) ∧ w' = w) := by rw [ek]; exact fun w => round_any Bv w
  have CC : Hid (∀ w, Calls Try.prog 32 #[.int .i64 C] w fun e w' => e = .returned (.int .i64 (c : Int)) ∧ w' = w) := by rw [ec]; exact fun w => round_any C w
  have HL : Hid (lr.length ≤ 1000000) := by show lr.length ≤ 1000000; omega
  have HLL : Hid (ll.length ≤ 1000000) := by show ll.length ≤ 1000000; omega
  have HN : Hid (0 ≤ N ∧ N < 4294967296) := hN
  have HT : Hid (0 ≤ T ∧ T < 18446744073709551616) := hT
  have HRR : Hid (∀ j, j < 8 → num (es j) = ns j) := hR
  have LI : Hid (Lim (es i) ∧ Lim (es k) ∧ ns i < P ∧ ns k < P) := ⟨h.bn.lim i hi8.out, h.bn.lim k hk8.out, h.bn.nl i hi8.out, h.bn.nl k hk8.out⟩
  have KD : Hid (Key32 D) := kD
  obtain ⟨z, lz0, nz, HC⟩ := o_mul LI.out.1 LI.out.2.1
  have NZ : Hid (num z = ns i * ns k % P) := by show num z = ns i * ns k % P; rw [nz]; rw [HRR.out i hi8.out, HRR.out k hk8.out]
  have lz : Hid (Lim z) := lz0
  have HM : Hid (ns i * ns k % P < P) := Nat.mod_lt _ (by decide)
  have HD : Hid (∀ w, Calls Try.prog 40 #[.agg (VI .i64 (dg (ns i))), .agg (VI .i64 (dg (ns k)))] w fun e w' => e = .returned (.agg (VI .i64 (dg (ns i * ns k % P)))) ∧ Below w.heap.size w w') := fun w => rmul_any _ _ LI.out.2.2.1 LI.out.2.2.2 w
  clear lz0 nz
  have hE := h.new (stO 4 A Bv C D N T)
  obtain ⟨W0, hW⟩ : ∃ W0, W.alloc (.cells (stA 4 A Bv C D N T) 60) = W0 := ⟨_, rfl⟩
  rw [show W.alloc (stO 4 A Bv C D N T) = W0 from hW] at hE
  obtain ⟨gx, hg⟩ : ∃ gx, W.heap.size = gx := ⟨_, rfl⟩
  rw [hg] at hE
  have c0 : W0.cell? ⟨gx, 0, none⟩ = some (.int .i64 (4)) := by have := st_cell (hE.row (k := gx) (x := stO 4 A Bv C D N T) (by simp)) 0; rw [this, Array.getElem?_append_left (by simp; omega), Array.getElem?_append_left (by simp)]; rfl
  have c1 : W0.cell? ⟨gx, 1, none⟩ = some (.int .i64 A) := by have := st_cell (hE.row (k := gx) (x := stO 4 A Bv C D N T) (by simp)) 1; rw [this, Array.getElem?_append_left (by simp; omega), Array.getElem?_append_left (by simp)]; rfl
  have c2 : W0.cell? ⟨gx, 2, none⟩ = some (.int .i64 Bv) := by have := st_cell (hE.row (k := gx) (x := stO 4 A Bv C D N T) (by simp)) 2; rw [this, Array.getElem?_append_left (by simp; omega), Array.getElem?_append_left (by simp)]; rfl
  have c3 : W0.cell? ⟨gx, 3, none⟩ = some (.int .i64 C) := by have := st_cell (hE.row (k := gx) (x := stO 4 A Bv C D N T) (by simp)) 3; rw [this, Array.getElem?_append_left (by simp; omega), Array.getElem?_append_left (by simp)]; rfl
  have X0 : Hid (SB B w rv lr g es ns vs ll ((gx, stO 4 A Bv C D N T) :: bx) W0) := hE
  clear hE h hl hll ei ek ec kD hN hT hR
  generalize stA 4 A Bv C D N T = sva at *
  go_enter Try.func17, Try.ntmps17
  go_wp2_with fail
  try simp only [hg]
  refine (CA.out _).mono ?_
  rintro e w1 ⟨rfl, hw1⟩
  obtain rfl : W0 = w1 := hw1.symm
  go_wp2_with fail
  refine (CB.out _).mono ?_
  rintro e w1 ⟨rfl, hw1⟩
  obtain rfl : W0 = w1 := hw1.symm
  go_wp2_with fail
  refine (CC.out _).mono ?_
  rintro e w1 ⟨rfl, hw1⟩
  obtain rfl : W0 = w1 := hw1.symm
  go_wp2_with fail
  clear c0 c1 c2 c3 hW hg CA CB CC
  refine wp_as (c' := rgB17) (by kernel_rfl) ?_
  refine bk_r17 (K0 := 4) (A0 := A) (B0 := Bv) (C0 := C) (N := N) (T := T) (D := D) hi8 hk8 hc8 LD HC HL lz (List.mem_cons_self ..) X0.out (fun _ _ d _ _ h => by cases d <;> exact h) ?_
  intro W1 hN1
  have X1 : Hid (SB B w rv (lr ++ [(3, 3)]) g (upd es c z) ns vs ll ((gx, stO 4 A Bv C D N T) :: bx) W1) := hN1
  clear hN1 X0
  go_wp2_with fail
  refine wp_as (c' := rgB18) (by kernel_rfl) ?_
  refine bk_r18 (K0 := 4) (A0 := A) (B0 := Bv) (C0 := C) (N := N) (T := T) (D := D) hi8 hk8 hc8 LD HD HM (List.mem_cons_self ..) X1.out (fun _ _ d _ _ h => by cases d <;> exact h) ?_
  intro W2 hN2
  have X2 : Hid (SB B w rv (lr ++ [(3, 3)]) g (upd es c z) (upd ns c (ns i * ns k % P)) vs ll ((gx, stO 4 A Bv C D N T) :: bx) W2) := hN2
  clear hN2 X1
  go_wp2_with fail
  refine (logs_any 3 X2.out HLL.out).mono ?_
  rintro e W3 ⟨rfl, vs3, hN3⟩
  have XF : Hid _ := hN3
  clear hN3 X2
  go_wp2
  go_end0
  exact ⟨rfl, _, _, XF.out.sub (fun p hp => List.mem_cons_of_mem _ hp), upd_num HRR.out NZ.out⟩
set_option maxRecDepth 100000 in
set_option maxHeartbeats 8000000 in
theorem step_k5 {B : Nat} {w : World} {rv : Value} {lr : List (Int × Int)} {g : Nat} {es : Nat → List Int} {ns : Nat → Nat} {vs : Value} {ll : List (Int × Int)} {bx : List (Nat × Obj)} {W : World} {i k c : Nat} {A Bv C N T : Int} {D : List Int} 
    (h : SB B w rv lr g es ns vs ll bx W) (hl : lr.length ≤ 900000) (hll : ll.length ≤ 900000) (ei : (i : Int) = A % 8) (ek : (k : Int) = Bv % 8) (ec : (c : Int) = C % 8) (kD : Key32 D) (hN : 0 ≤ N ∧ N < 4294967296) (hT : 0 ≤ T ∧ T < 18446744073709551616) (hR : ∀ j, j < 8 → num (es j) = ns j) :
    Calls Try.prog 17 #[.pointer (some ⟨g, 0, none⟩), rv, .agg (stA 5 A Bv C D N T)] W fun e w' => e = .returned (.tuple #[]) ∧ ∃ es' vs', SB B w rv (lr ++ [(3, 4)]) g es' (upd ns c (ns i * ns i % P)) vs' (ll ++ [(3, 4)]) bx w' ∧ ∀ j, j < 8 → num (es' j) = (upd ns c (ns i * ns i % P)) j := by
  have hi8 : Hid (i < 8) := by show i < 8; omega
  have hk8 : Hid (k < 8) := by show k < 8; omega
  have hc8 : Hid (c < 8) := by show c < 8; omega
  have LD : Hid (D.length = 32) := kD.len
  have CA : Hid (∀ w, Calls Try.prog 32 #[.int .i64 A] w fun e w' => e = .returned (.int .i64 (i : Int)) ∧ w' = w) := by rw [ei]; exact fun w => round_any A w
  have CB : Hid (∀ w, Calls Try.prog 32 #[.int .i64 Bv] w fun e w' => e = .returned (.int .i64 (k : Int)) ∧ w' = w) := by rw [ek]; exact fun w => round_any Bv w
  have CC : Hid (∀ w, Calls Try.prog 32 #[.int .i64 C] w fun e w' => e = .returned (.int .i64 (c : Int)) ∧ w' = w) := by rw [ec]; exact fun w => round_any C w
  have HL : Hid (lr.length ≤ 1000000) := by show lr.length ≤ 1000000; omega
  have HLL : Hid (ll.length ≤ 1000000) := by show ll.length ≤ 1000000; omega
  have HN : Hid (0 ≤ N ∧ N < 4294967296) := hN
  have HT : Hid (0 ≤ T ∧ T < 18446744073709551616) := hT
  have HRR : Hid (∀ j, j < 8 → num (es j) = ns j) := hR
  have LI : Hid (Lim (es i) ∧ Lim (es k) ∧ ns i < P ∧ ns k < P) := ⟨h.bn.lim i hi8.out, h.bn.lim k hk8.out, h.bn.nl i hi8.out, h.bn.nl k hk8.out⟩
  have KD : Hid (Key32 D) := kD
  obtain ⟨z, lz0, nz, HC⟩ := o_square LI.out.1
  have NZ : Hid (num z = ns i * ns i % P) := by show num z = ns i * ns i % P; rw [nz]; rw [HRR.out i hi8.out]
  have lz : Hid (Lim z) := lz0
  have HM : Hid (ns i * ns i % P < P) := Nat.mod_lt _ (by decide)
  have HD : Hid (∀ w, Calls Try.prog 40 #[.agg (VI .i64 (dg (ns i))), .agg (VI .i64 (dg (ns i)))] w fun e w' => e = .returned (.agg (VI .i64 (dg (ns i * ns i % P)))) ∧ Below w.heap.size w w') := fun w => rmul_any _ _ LI.out.2.2.1 LI.out.2.2.1 w
  clear lz0 nz
  have hE := h.new (stO 5 A Bv C D N T)
  obtain ⟨W0, hW⟩ : ∃ W0, W.alloc (.cells (stA 5 A Bv C D N T) 60) = W0 := ⟨_, rfl⟩
  rw [show W.alloc (stO 5 A Bv C D N T) = W0 from hW] at hE
  obtain ⟨gx, hg⟩ : ∃ gx, W.heap.size = gx := ⟨_, rfl⟩
  rw [hg] at hE
  have c0 : W0.cell? ⟨gx, 0, none⟩ = some (.int .i64 (5)) := by have := st_cell (hE.row (k := gx) (x := stO 5 A Bv C D N T) (by simp)) 0; rw [this, Array.getElem?_append_left (by simp; omega), Array.getElem?_append_left (by simp)]; rfl
  have c1 : W0.cell? ⟨gx, 1, none⟩ = some (.int .i64 A) := by have := st_cell (hE.row (k := gx) (x := stO 5 A Bv C D N T) (by simp)) 1; rw [this, Array.getElem?_append_left (by simp; omega), Array.getElem?_append_left (by simp)]; rfl
  have c2 : W0.cell? ⟨gx, 2, none⟩ = some (.int .i64 Bv) := by have := st_cell (hE.row (k := gx) (x := stO 5 A Bv C D N T) (by simp)) 2; rw [this, Array.getElem?_append_left (by simp; omega), Array.getElem?_append_left (by simp)]; rfl
  have c3 : W0.cell? ⟨gx, 3, none⟩ = some (.int .i64 C) := by have := st_cell (hE.row (k := gx) (x := stO 5 A Bv C D N T) (by simp)) 3; rw [this, Array.getElem?_append_left (by simp; omega), Array.getElem?_append_left (by simp)]; rfl
  have X0 : Hid (SB B w rv lr g es ns vs ll ((gx, stO 5 A Bv C D N T) :: bx) W0) := hE
  clear hE h hl hll ei ek ec kD hN hT hR
  generalize stA 5 A Bv C D N T = sva at *
  go_enter Try.func17, Try.ntmps17
  go_wp2_with fail
  try simp only [hg]
  refine (CA.out _).mono ?_
  rintro e w1 ⟨rfl, hw1⟩
  obtain rfl : W0 = w1 := hw1.symm
  go_wp2_with fail
  refine (CB.out _).mono ?_
  rintro e w1 ⟨rfl, hw1⟩
  obtain rfl : W0 = w1 := hw1.symm
  go_wp2_with fail
  refine (CC.out _).mono ?_
  rintro e w1 ⟨rfl, hw1⟩
  obtain rfl : W0 = w1 := hw1.symm
  go_wp2_with fail
  clear c0 c1 c2 c3 hW hg CA CB CC
  refine wp_as (c' := rgB21) (by kernel_rfl) ?_
  refine bk_r21 (K0 := 5) (A0 := A) (B0 := Bv) (C0 := C) (N := N) (T := T) (D := D) hi8 hk8 hc8 LD HC HL lz (List.mem_cons_self ..) X0.out (fun _ _ d _ _ h => by cases d <;> exact h) ?_
  intro W1 hN1
  have X1 : Hid (SB B w rv (lr ++ [(3, 4)]) g (upd es c z) ns vs ll ((gx, stO 5 A Bv C D N T) :: bx) W1) := hN1
  clear hN1 X0
  go_wp2_with fail
  refine wp_as (c' := rgB22) (by kernel_rfl) ?_
  refine bk_r22 (K0 := 5) (A0 := A) (B0 := Bv) (C0 := C) (N := N) (T := T) (D := D) hi8 hk8 hc8 LD HD HM (List.mem_cons_self ..) X1.out (fun _ _ d _ _ h => by cases d <;> exact h) ?_
  intro W2 hN2
  have X2 : Hid (SB B w rv (lr ++ [(3, 4)]) g (upd es c z) (upd ns c (ns i * ns i % P)) vs ll ((gx, stO 5 A Bv C D N T) :: bx) W2) := hN2
  clear hN2 X1
  go_wp2_with fail
  refine (logs_any 4 X2.out HLL.out).mono ?_
  rintro e W3 ⟨rfl, vs3, hN3⟩
  have XF : Hid _ := hN3
  clear hN3 X2
  go_wp2
  go_end0
  exact ⟨rfl, _, _, XF.out.sub (fun p hp => List.mem_cons_of_mem _ hp), upd_num HRR.out NZ.out⟩
end Go.Proofs.Ytacofgmnmofkpaa
