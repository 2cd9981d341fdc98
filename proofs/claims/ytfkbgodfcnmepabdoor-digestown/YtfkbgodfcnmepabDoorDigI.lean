import Derived.Test.YtfkbgodfcnmepabDoorDigH
namespace Go.Proofs.YtfkbgodfcnmepabDoor
set_option linter.unusedSimpArgs false
set_option linter.unusedVariables false
open Go.ChangeShapes Go.WideShapes Go.ChangeAt Go.RowKit Go.Pin Go.Str Go.Dig
theorem Grow.setCell {S : Nat → Prop} {a w : World} (h : Grow S a w) {p : Addr} (hp : S p.block ∨ a.heap.size ≤ p.block) (u : Value) : Grow S a (w.setCell p u) :=
  ⟨h.os, h.tape, h.output, by simpa using h.size, fun k hk hn => by
    rw [heap_setCell_other _ _ _ _ (by rcases hp with hp | hp; exact fun e => hn (by rw [e]; exact hp); omega)]; exact h.block k hk hn⟩
theorem Grow.refl (S : Nat → Prop) (w : World) : Grow S w w := ⟨rfl, rfl, rfl, Nat.le_refl _, fun _ _ _ => rfl⟩
theorem info8w : (Tryd.prog.info? 47).map (·.size) = some 8 := by kernel_rfl
theorem load_midI {P : Program} {ops : Array Oper} {rest : List Oper} {op : Oper} {a : Act} {w : World} {Q : Exit → Act → World → Prop} (hgd : op.guard = none) (ty : TypeId) (x : Operand) (ho : op.op = .load ty x)
    (b o : Nat) (hx : a.eval x = .pointer (some ⟨b, o, none⟩)) (k : IntKind) (L : List Int) (d : TypeDesc) (hc : w.rangeAt b o (L.map (Value.int k)))
    (hu : P.underlying ty = some d) (hd : d.isRow = true) (hi : (P.info? ty).map (·.size) = some L.length)
    (h : wpList P ops Q rest (a.put op.dst (.agg (VI k L))) w) : wpList P ops Q (op :: rest) a w :=
  wpList_load_mid hgd ty x ho b o hx _ d hc hu hd (by rw [List.length_map]; exact hi) h
theorem run_index_vn (w : World) (t e : TypeId) (k kk : IntKind) (n : Nat) (l : List Nat) (i : Nat) (hl : l.length = n) (hi : i < n)
    (ht : Tryd.prog.underlying t = some (.array n e)) (he : Tryd.prog.underlying e = some (.int k)) (hs : ∀ w, (sizeOf e).run Tryd.prog w = .ok 1 w) :
    (Instr.index t (.agg (VN k l)) (.int kk (i : Int))).run Tryd.prog w = .ok (.int k ((l.getD i 0 : Nat) : Int)) w := by
  have := run_index_row (P := Tryd.prog) w t e k kk n (l.map Int.ofNat) i (by simpa using hl) hi ht he hs
  rw [show (l.map Int.ofNat).getD i 0 = ((l.getD i 0 : Nat) : Int) by simp [List.getD, List.getElem?_eq_getElem (show i < l.length by omega)]] at this
  exact this
/-- the beginning's words, where the program keeps them -/
def Beg (w : World) : Prop := w.rangeAt 1 0 ((iv.map Int.ofNat).map (Value.int .u32)) ∧ 1 < w.heap.size
theorem Beg.below {w w' : World} {B : Nat} (h : Beg w) (hb : Below B w w') (hB : 2 ≤ B) : Beg w' :=
  ⟨fun j v hj => by
    have := h.1 j v hj
    rw [World.cell?_of_block (a := ⟨1, 0 + j, none⟩) (hb.block 1 (by omega))]
    exact this, Nat.lt_of_lt_of_le h.2 hb.size⟩
/-- press's boxes -/
structure PW (n : Nat) (w : World) (L : List Nat) (wr : World) : Prop where
  old : Below n w wr
  sz : n < wr.heap.size
  hv : RW wr n L 73
theorem PW.set {n : Nat} {w wr : World} {L : List Nat} (h : PW n w L wr) (i v : Nat) : PW n w (L.set i v) (wr.setCell ⟨n, i, none⟩ (.int .u32 (v : Int))) :=
  ⟨h.old.setCell (Nat.le_refl n) _, by simp only [World.setCell, Array.size_modify]; exact h.sz, h.hv.set _ _⟩
theorem PW.drew {n : Nat} {w wr : World} {L : List Nat} (h : PW n w L wr) : PW n w L wr.drew := ⟨h.old.drew, h.sz, h.hv⟩
theorem PW.below {n : Nat} {w wr w' : World} {L : List Nat} (h : PW n w L wr) (hb : Below wr.heap.size wr w') : PW n w L w' :=
  ⟨h.old.trans (hb.mono (Nat.le_of_lt h.sz)), Nat.lt_of_lt_of_le h.sz hb.size, (hb.block n h.sz).trans h.hv⟩
theorem PW.but {n : Nat} {w wr w' : World} {L L' : List Nat} (h : PW n w L wr) (hb : But (fun k => k = n) wr w') (hv : RW w' n L' 73) : PW n w L' w' :=
  ⟨⟨hb.os.trans h.old.os, hb.tape.trans h.old.tape, hb.output.trans h.old.output, by rw [hb.size]; exact h.old.size, fun k hk => (hb.block k (by omega)).trans (h.old.block k hk)⟩, by rw [hb.size]; exact h.sz, hv⟩
theorem pw_start (w : World) : PW w.heap.size w z16n (w.alloc (.cells (VN .u32 z16n) 73)) := ⟨(Below.refl _ _).alloc (Nat.le_refl _) _, by simp [size_alloc], heap_alloc_new w _⟩
set_option maxRecDepth 100000 in
set_option maxHeartbeats 8000000 in
theorem press_any (gs os gb ob : Nat) (pre post : List Value) (hpre : pre.length = os) (TS : TypeId) (h : List Nat) (hh : S8 h) (b : List Int) (hb : Byb b) (count mark : Nat) (hcount : count < 18446744073709551616) (hmark : mark < 4294967296) (w : World)
    (hs : RS w gs pre post h TS) (hc : ∀ i, i < 64 → w.cell? ⟨gb, ob + i, none⟩ = some (.int .u8 (b.getD i 0))) (hG : Beg w) :
    Calls Tryd.prog 18 #[.pointer (some ⟨gs, os, none⟩), .pointer (some ⟨gb, ob, none⟩), .int .u64 (count : Int), .int .u32 (mark : Int)] w fun e w' => e = .returned (.tuple #[]) ∧ Grow (fun k => k = gs) w w' ∧ RS w' gs pre post (prs h b count mark) TS := by
  have hst := pw_start w
  obtain ⟨n, hn⟩ : ∃ n, w.heap.size = n := ⟨_, rfl⟩
  have hgs : gs < n := by rw [← hn]; exact hs.lt
  have hgb : gb < n := by rw [← hn]; exact World.block_lt_of_cell? w _ (hc 0 (by decide))
  have hn2 : 2 ≤ n := by rw [← hn]; exact hG.2
  obtain ⟨W0, hW0⟩ : ∃ V, w.alloc (.cells (VN .u32 z16n) 73) = V := ⟨_, rfl⟩
  have hW0' : w.alloc (.cells #[.int .u32 0, .int .u32 0, .int .u32 0, .int .u32 0, .int .u32 0, .int .u32 0, .int .u32 0, .int .u32 0, .int .u32 0, .int .u32 0, .int .u32 0, .int .u32 0, .int .u32 0, .int .u32 0, .int .u32 0, .int .u32 0] 73) = W0 := hW0
  rw [hW0, hn] at hst
  have HST : Hid (PW n w z16n W0) := hst
  have HS : Hid (RS w gs pre post h TS ∧ pre.length = os ∧ S8 h ∧ gs < n ∧ w.heap.size = n) := ⟨hs, hpre, hh, hgs, hn⟩
  have HSC : Hid (∀ i Y, i < 8 → Below n w Y → Y.cell? ⟨gs, os + i, none⟩ = some (.int .u32 ((h.getD i 0 : Nat) : Int))) := fun i Y hi hY => by
    rw [World.cell?_of_block (a := ⟨gs, os + i, none⟩) (hY.block gs hgs)]; exact hs.cell hpre (by rw [hh.len]; exact hi)
  have HBC : Hid (∀ i Y, i < 64 → Below n w Y → Y.cell? ⟨gb, ob + i, none⟩ = some (.int .u8 (b.getD i 0))) := fun i Y hi hY => by
    rw [World.cell?_of_block (a := ⟨gb, ob + i, none⟩) (hY.block gb hgb)]; exact hc i hi
  have HG : Hid (∀ Y, Below n w Y → Y.rangeAt 1 0 ((iv.map Int.ofNat).map (Value.int .u32))) := fun Y hY => (hG.below hY hn2).1
  have HB : Hid (Byb b ∧ count < 18446744073709551616 ∧ mark < 4294967296) := ⟨hb, hcount, hmark⟩
  have HI8 : Hid ((Tryd.prog.info? 47).map (·.size) = some (iv.map Int.ofNat).length) := info8w
  clear hst hW0 hs hc hG hb hcount hmark hh hpre hgs hgb hn2
  go_enter Tryd.func18, Tryd.ntmps18
  go_upto_region 1 with fail
  have HW1 := HST.out
  obtain ⟨W1, hW1⟩ : ∃ V, W0.drew.setCells n 0 (cellsW h) = V := ⟨_, rfl⟩
  have HP1 : Hid (PW n w (vbl h 0) W1) := by
    have : PW n w (vbl h 0) W1 := by
      rw [← hW1, ← vbl_zero HS.out.2.2.1.len]
      refine ⟨setCells_below _ HST.out.old.drew (Nat.le_refl _), ?_, RW.puts h 0 (w := W0.drew) HST.out.hv⟩
      have hz : ∀ (cs : List Value) (v : World) (o : Nat), (v.setCells n o cs).heap.size = v.heap.size := by
        intro cs
        induction cs with
        | nil => intro v o; rfl
        | cons c r ih => intro v o; rw [World.setCells, ih]; simp [World.setCell]
      rw [hz]; exact HST.out.sz
    exact this
  refine wp_as (c' := rgPr1) (by kernel_rfl) ?_
  refine Pr1 (n := n) (gs := gs) (os := os) HS.out.2.2.1.len HST.out.hv (fun i hi => HSC.out i W0 hi HST.out.old) rfl rfl rfl (fun _ _ d _ _ h => by cases d <;> exact h) ?_
  rw [hW1]
  simp only [Act.put, List.setIfInBounds_toArray, List.set_cons_zero, List.set_cons_succ]
  clear hW1 HW1 HST hW0'
  have g0 : W1.cell? ⟨1, 0, none⟩ = some (.int .u32 1779033703) := HG.out W1 HP1.out.old 0 _ rfl
  have g1 : W1.cell? ⟨1, 1, none⟩ = some (.int .u32 3144134277) := HG.out W1 HP1.out.old 1 _ rfl
  have g2 : W1.cell? ⟨1, 2, none⟩ = some (.int .u32 1013904242) := HG.out W1 HP1.out.old 2 _ rfl
  have g3 : W1.cell? ⟨1, 3, none⟩ = some (.int .u32 2773480762) := HG.out W1 HP1.out.old 3 _ rfl
  have g4 : W1.cell? ⟨1, 4, none⟩ = some (.int .u32 1359893119) := HG.out W1 HP1.out.old 4 _ rfl
  have g5 : W1.cell? ⟨1, 5, none⟩ = some (.int .u32 2600822924) := HG.out W1 HP1.out.old 5 _ rfl
  have g6 : W1.cell? ⟨1, 6, none⟩ = some (.int .u32 528734635) := HG.out W1 HP1.out.old 6 _ rfl
  have g7 : W1.cell? ⟨1, 7, none⟩ = some (.int .u32 1541459225) := HG.out W1 HP1.out.old 7 _ rfl
  go_wp2
  clear g0 g1 g2 g3 g4 g5 g6 g7
  go_loopw [19] (fun v w' => ∃ i : Nat, i ≤ 8 ∧ v = .int .i64 (i : Int) ∧ PW n w (vbl h i) w') (fun v _ => 8 - (intOf v).toNat)
  case atStart => exact ⟨0, Nat.zero_le _, rfl, HP1.out⟩
  case round =>
    clear HP1
    obtain ⟨i, hi, rfl, hp⟩ := hrel
    by_cases hlt : i < 8
    · have b1 : (i : Int) < 8 := by omega
      have hix : (Instr.index 47 (.agg #[.int .u32 1779033703, .int .u32 3144134277, .int .u32 1013904242, .int .u32 2773480762, .int .u32 1359893119, .int .u32 2600822924, .int .u32 528734635, .int .u32 1541459225]) (.int .i64 (i : Int))).run Tryd.prog wr = .ok (.int .u32 ((iv.getD i 0 : Nat) : Int)) wr := run_index_vn wr 47 46 .u32 .i64 8 iv i rfl hlt Tryd.underlying47 Tryd.underlying46 size_u32
      have hp1 := hp.set (8 + i) (iv.getD i 0)
      rw [vbl_set h hlt] at hp1
      have hfr := fun k => hp.hv.froz k
      have hcl := hp.hv.cell (i := 8 + i) (by rw [vbl_len]; omega)
      obtain ⟨x, hx⟩ : ∃ x, iv.getD i 0 = x := ⟨_, rfl⟩
      rw [hx] at hix hp1
      obtain ⟨W2, hW2⟩ : ∃ V, wr.setCell ⟨n, 8 + i, none⟩ (.int .u32 (x : Int)) = V := ⟨_, rfl⟩
      rw [hW2] at hp1
      have HP1 : Hid (PW n w (vbl h (i + 1)) W2) := hp1
      clear hp hp1 hx
      go_wp2
      go_roundw
      case rel => exact ⟨i + 1, hlt, by go_num, HP1.out⟩
      case measure => simp [intOf]; omega
    · have hi' : i = 8 := by omega
      subst hi'
      have c12 := hp.hv.cell (i := 12) (by rw [vbl_len]; decide)
      have c13 := hp.hv.cell (i := 13) (by rw [vbl_len]; decide)
      have c14 := hp.hv.cell (i := 14) (by rw [vbl_len]; decide)
      rw [vbl_at _ _ (by decide), if_neg (by decide), if_pos (by decide)] at c12 c13 c14
      have f0 := fun k => hp.hv.froz k
      have hx0 := u32_xor_nat 1359893119 (count % 4294967296) (by decide) (Nat.mod_lt _ (by decide))
      have hx1 := u32_xor_nat 2600822924 (count / 4294967296 % 4294967296) (by decide) (Nat.mod_lt _ (by decide))
      have hx2 := u32_xor_nat 528734635 mark (by decide) HB.out.2.2
      have hp3 := (((hp.set 12 (1359893119 ^^^ (count % 4294967296))).set 13 (2600822924 ^^^ (count / 4294967296 % 4294967296))).set 14 (528734635 ^^^ mark))
      rw [vbl_full HS.out.2.2.1.len, vbl_pv HS.out.2.2.1.len] at hp3
      have cd : (count : Int) / 4294967296 = ((count / 4294967296 % 4294967296 : Nat) : Int) := by have := HB.out.2.1; omega
      have cm : (count : Int) % 4294967296 = ((count % 4294967296 : Nat) : Int) := by omega
      obtain ⟨d0, hd0⟩ : ∃ d, count % 4294967296 = d := ⟨_, rfl⟩
      obtain ⟨d1, hd1⟩ : ∃ d, count / 4294967296 % 4294967296 = d := ⟨_, rfl⟩
      rw [hd0] at hx0 hp3 cm
      rw [hd1] at hx1 hp3 cd
      obtain ⟨y0, hy0⟩ : ∃ y, 1359893119 ^^^ d0 = y := ⟨_, rfl⟩
      obtain ⟨y1, hy1⟩ : ∃ y, 2600822924 ^^^ d1 = y := ⟨_, rfl⟩
      obtain ⟨y2, hy2⟩ : ∃ y, 528734635 ^^^ mark = y := ⟨_, rfl⟩
      rw [hy0] at hx0 hp3
      rw [hy1] at hx1 hp3
      rw [hy2] at hx2 hp3
      have e12 : wr.cell? ⟨n, 12, none⟩ = some (.int .u32 1359893119) := c12
      have e13 : wr.cell? ⟨n, 13, none⟩ = some (.int .u32 2600822924) := c13
      have e14 : wr.cell? ⟨n, 14, none⟩ = some (.int .u32 528734635) := c14
      have hx0' : bits .xor .u32 1359893119 (d0 : Int) = (y0 : Int) := hx0
      have hx1' : bits .xor .u32 2600822924 (d1 : Int) = (y1 : Int) := hx1
      have hx2' : bits .xor .u32 528734635 (mark : Int) = (y2 : Int) := hx2
      obtain ⟨W2, hW2⟩ : ∃ V, wr.setCell ⟨n, 12, none⟩ (.int .u32 (y0 : Int)) = V := ⟨_, rfl⟩
      have s13 : W2.cell? ⟨n, 13, none⟩ = some (.int .u32 2600822924) := by rw [← hW2]; exact cs_other e13 _ (by decide)
      have s14 : W2.cell? ⟨n, 14, none⟩ = some (.int .u32 528734635) := by rw [← hW2]; exact cs_other e14 _ (by decide)
      have f2 : ∀ k, W2.frozen? ⟨n, k, none⟩ = false := fun k => by rw [← hW2, World.frozen?_setCell]; exact f0 k
      obtain ⟨W3, hW3⟩ : ∃ V, W2.setCell ⟨n, 13, none⟩ (.int .u32 (y1 : Int)) = V := ⟨_, rfl⟩
      have t14 : W3.cell? ⟨n, 14, none⟩ = some (.int .u32 528734635) := by rw [← hW3]; exact cs_other s14 _ (by decide)
      have f3 : ∀ k, W3.frozen? ⟨n, k, none⟩ = false := fun k => by rw [← hW3, World.frozen?_setCell]; exact f2 k
      obtain ⟨W4, hW4⟩ : ∃ V, W3.setCell ⟨n, 14, none⟩ (.int .u32 (y2 : Int)) = V := ⟨_, rfl⟩
      rw [hW2, hW3, hW4] at hp3
      have HP4 : Hid (PW n w (pv h count mark) W4) := hp3
      have hcn := HB.out.2.1
      clear hp hp3 c12 c13 c14 hx0 hx1 hx2 hy0 hy1 hy2 hd0 hd1 s14 e14 HSC
      have CR : Hid (Calls Tryd.prog 25 #[.pointer (some ⟨gb, ob, none⟩)] W4 fun e w' => e = .returned (.agg (VN .u32 (wds b))) ∧ Below W4.heap.size W4 w') := read_any gb ob b HB.out.1 W4 (fun i hi => HBC.out i W4 hi HP4.out.old)
      have HIB : Hid ((Tryd.prog.info? 73).map (·.size) = some (VN .u32 (wds b)).size) := by
        have : (Tryd.prog.info? 73).map (·.size) = some (VN .u32 (wds b)).size := by rw [VN_size, wds_len]; exact infoS
        exact this
      have HSB : Hid ((VN .u32 z16n).size = (VN .u32 (wds b)).size) := by
        have : (VN .u32 z16n).size = (VN .u32 (wds b)).size := by rw [VN_size, VN_size, wds_len]; rfl
        exact this
      go_upto_region 11 with (first | (go_at_call 25; refine Calls.mono CR.out ?_; rintro e W5 ⟨rfl, hb5⟩; have HB5 : Hid (PW n w (pv h count mark) W5) := HP4.out.below hb5; clear hb5 CR) | (with_reducible refine at_list ?_; first | (refine hold_store 73 (.tmp 11) (.tmp 47) rfl ?_)))
      refine store_row_new rfl 73 (.tmp 11) (.tmp 47) rfl W5.heap.size (VN .u32 (wds b)) rfl rfl rfl 73 (VN .u32 z16n) HIB.out HSB.out (VN_one _ _) ?_
      have hp6 := HB5.out.below (w' := W5.alloc (.cells (VN .u32 (wds b)) 73)) ((Below.refl _ _).alloc (Nat.le_refl _) _)
      have hm6 : RW (W5.alloc (.cells (VN .u32 (wds b)) 73)) W5.heap.size (wds b) 73 := heap_alloc_new W5 _
      have hne : W5.heap.size ≠ n := Nat.ne_of_gt HB5.out.sz
      obtain ⟨nm, hnm⟩ : ∃ nm, W5.heap.size = nm := ⟨_, rfl⟩
      obtain ⟨X0, hX0⟩ : ∃ V, W5.alloc (.cells (VN .u32 (wds b)) 73) = V := ⟨_, rfl⟩
      rw [hX0] at hp6 hm6 ⊢
      rw [hnm] at hm6 hne ⊢
      have HM0 : Hid (PW n w (rds (wds b) (pv h count mark) 0) X0 ∧ RW X0 nm (wds b) 73 ∧ nm ≠ n) := ⟨hp6, hm6, hne⟩
      have HSL : Hid (∀ r, S16 (rds (wds b) (pv h count mark) r)) := fun r => ⟨by rw [rds_len, pv_len HS.out.2.2.1], rds_w (pv_w HS.out.2.2.1 count HB.out.2.2) _ _⟩
      have HSM : Hid (S16 (wds b)) := ⟨wds_len b, wds_w HB.out.1⟩
      clear hp6 hm6 hne hnm hX0 HB5 HP4 hW2 hW3 hW4 s13 t14 f2 f3 f0 e12 e13 hx0' hx1' hx2' cd cm hcn HBC HIB HSB
      have C0 : Hid (Calls Tryd.prog 26 #[.pointer (some ⟨n, 0, none⟩), .pointer (some ⟨nm, 0, none⟩)] X0 fun e w' => e = .returned (.tuple #[]) ∧ PW n w (rds (wds b) (pv h count mark) 1) w' ∧ RW w' nm (wds b) 73 ∧ nm ≠ n) := (round0_any n nm HM0.out.2.2 _ _ (HSL.out 0) HSM.out X0 HM0.out.1.hv HM0.out.2.1).mono (fun e w' hh => ⟨hh.1, HM0.out.1.but hh.2.1 hh.2.2, HM0.out.2.1.but hh.2.1 HM0.out.2.2, HM0.out.2.2⟩)
      clear HM0
      go_upto_region 12 with (go_at_call 26; refine Calls.mono C0.out ?_; rintro e X1 ⟨rfl, hx⟩; have HM1 : Hid (PW n w (rds (wds b) (pv h count mark) 1) X1 ∧ RW X1 nm (wds b) 73 ∧ nm ≠ n) := hx; clear hx)
      clear C0
      have C1 : Hid (Calls Tryd.prog 27 #[.pointer (some ⟨n, 0, none⟩), .pointer (some ⟨nm, 0, none⟩)] X1 fun e w' => e = .returned (.tuple #[]) ∧ PW n w (rds (wds b) (pv h count mark) 2) w' ∧ RW w' nm (wds b) 73 ∧ nm ≠ n) := (round1_any n nm HM1.out.2.2 _ _ (HSL.out 1) HSM.out X1 HM1.out.1.hv HM1.out.2.1).mono (fun e w' hh => ⟨hh.1, HM1.out.1.but hh.2.1 hh.2.2, HM1.out.2.1.but hh.2.1 HM1.out.2.2, HM1.out.2.2⟩)
      clear HM1
      go_upto_region 13 with (go_at_call 27; refine Calls.mono C1.out ?_; rintro e X2 ⟨rfl, hx⟩; have HM2 : Hid (PW n w (rds (wds b) (pv h count mark) 2) X2 ∧ RW X2 nm (wds b) 73 ∧ nm ≠ n) := hx; clear hx)
      clear C1
      have C2 : Hid (Calls Tryd.prog 28 #[.pointer (some ⟨n, 0, none⟩), .pointer (some ⟨nm, 0, none⟩)] X2 fun e w' => e = .returned (.tuple #[]) ∧ PW n w (rds (wds b) (pv h count mark) 3) w' ∧ RW w' nm (wds b) 73 ∧ nm ≠ n) := (round2_any n nm HM2.out.2.2 _ _ (HSL.out 2) HSM.out X2 HM2.out.1.hv HM2.out.2.1).mono (fun e w' hh => ⟨hh.1, HM2.out.1.but hh.2.1 hh.2.2, HM2.out.2.1.but hh.2.1 HM2.out.2.2, HM2.out.2.2⟩)
      clear HM2
      go_upto_region 14 with (go_at_call 28; refine Calls.mono C2.out ?_; rintro e X3 ⟨rfl, hx⟩; have HM3 : Hid (PW n w (rds (wds b) (pv h count mark) 3) X3 ∧ RW X3 nm (wds b) 73 ∧ nm ≠ n) := hx; clear hx)
      clear C2
      have C3 : Hid (Calls Tryd.prog 29 #[.pointer (some ⟨n, 0, none⟩), .pointer (some ⟨nm, 0, none⟩)] X3 fun e w' => e = .returned (.tuple #[]) ∧ PW n w (rds (wds b) (pv h count mark) 4) w' ∧ RW w' nm (wds b) 73 ∧ nm ≠ n) := (round3_any n nm HM3.out.2.2 _ _ (HSL.out 3) HSM.out X3 HM3.out.1.hv HM3.out.2.1).mono (fun e w' hh => ⟨hh.1, HM3.out.1.but hh.2.1 hh.2.2, HM3.out.2.1.but hh.2.1 HM3.out.2.2, HM3.out.2.2⟩)
      clear HM3
      go_upto_region 15 with (go_at_call 29; refine Calls.mono C3.out ?_; rintro e X4 ⟨rfl, hx⟩; have HM4 : Hid (PW n w (rds (wds b) (pv h count mark) 4) X4 ∧ RW X4 nm (wds b) 73 ∧ nm ≠ n) := hx; clear hx)
      clear C3
      have C4 : Hid (Calls Tryd.prog 30 #[.pointer (some ⟨n, 0, none⟩), .pointer (some ⟨nm, 0, none⟩)] X4 fun e w' => e = .returned (.tuple #[]) ∧ PW n w (rds (wds b) (pv h count mark) 5) w' ∧ RW w' nm (wds b) 73 ∧ nm ≠ n) := (round4_any n nm HM4.out.2.2 _ _ (HSL.out 4) HSM.out X4 HM4.out.1.hv HM4.out.2.1).mono (fun e w' hh => ⟨hh.1, HM4.out.1.but hh.2.1 hh.2.2, HM4.out.2.1.but hh.2.1 HM4.out.2.2, HM4.out.2.2⟩)
      clear HM4
      go_upto_region 16 with (go_at_call 30; refine Calls.mono C4.out ?_; rintro e X5 ⟨rfl, hx⟩; have HM5 : Hid (PW n w (rds (wds b) (pv h count mark) 5) X5 ∧ RW X5 nm (wds b) 73 ∧ nm ≠ n) := hx; clear hx)
      clear C4
      have C5 : Hid (Calls Tryd.prog 31 #[.pointer (some ⟨n, 0, none⟩), .pointer (some ⟨nm, 0, none⟩)] X5 fun e w' => e = .returned (.tuple #[]) ∧ PW n w (rds (wds b) (pv h count mark) 6) w' ∧ RW w' nm (wds b) 73 ∧ nm ≠ n) := (round5_any n nm HM5.out.2.2 _ _ (HSL.out 5) HSM.out X5 HM5.out.1.hv HM5.out.2.1).mono (fun e w' hh => ⟨hh.1, HM5.out.1.but hh.2.1 hh.2.2, HM5.out.2.1.but hh.2.1 HM5.out.2.2, HM5.out.2.2⟩)
      clear HM5
      go_upto_region 17 with (go_at_call 31; refine Calls.mono C5.out ?_; rintro e X6 ⟨rfl, hx⟩; have HM6 : Hid (PW n w (rds (wds b) (pv h count mark) 6) X6 ∧ RW X6 nm (wds b) 73 ∧ nm ≠ n) := hx; clear hx)
      clear C5
      have C6 : Hid (Calls Tryd.prog 32 #[.pointer (some ⟨n, 0, none⟩), .pointer (some ⟨nm, 0, none⟩)] X6 fun e w' => e = .returned (.tuple #[]) ∧ PW n w (rds (wds b) (pv h count mark) 7) w' ∧ RW w' nm (wds b) 73 ∧ nm ≠ n) := (round6_any n nm HM6.out.2.2 _ _ (HSL.out 6) HSM.out X6 HM6.out.1.hv HM6.out.2.1).mono (fun e w' hh => ⟨hh.1, HM6.out.1.but hh.2.1 hh.2.2, HM6.out.2.1.but hh.2.1 HM6.out.2.2, HM6.out.2.2⟩)
      clear HM6
      go_upto_region 18 with (go_at_call 32; refine Calls.mono C6.out ?_; rintro e X7 ⟨rfl, hx⟩; have HM7 : Hid (PW n w (rds (wds b) (pv h count mark) 7) X7 ∧ RW X7 nm (wds b) 73 ∧ nm ≠ n) := hx; clear hx)
      clear C6
      have C7 : Hid (Calls Tryd.prog 33 #[.pointer (some ⟨n, 0, none⟩), .pointer (some ⟨nm, 0, none⟩)] X7 fun e w' => e = .returned (.tuple #[]) ∧ PW n w (rds (wds b) (pv h count mark) 8) w' ∧ RW w' nm (wds b) 73 ∧ nm ≠ n) := (round7_any n nm HM7.out.2.2 _ _ (HSL.out 7) HSM.out X7 HM7.out.1.hv HM7.out.2.1).mono (fun e w' hh => ⟨hh.1, HM7.out.1.but hh.2.1 hh.2.2, HM7.out.2.1.but hh.2.1 HM7.out.2.2, HM7.out.2.2⟩)
      clear HM7
      go_upto_region 19 with (go_at_call 33; refine Calls.mono C7.out ?_; rintro e X8 ⟨rfl, hx⟩; have HM8 : Hid (PW n w (rds (wds b) (pv h count mark) 8) X8 ∧ RW X8 nm (wds b) 73 ∧ nm ≠ n) := hx; clear hx)
      clear C7
      have C8 : Hid (Calls Tryd.prog 34 #[.pointer (some ⟨n, 0, none⟩), .pointer (some ⟨nm, 0, none⟩)] X8 fun e w' => e = .returned (.tuple #[]) ∧ PW n w (rds (wds b) (pv h count mark) 9) w' ∧ RW w' nm (wds b) 73 ∧ nm ≠ n) := (round8_any n nm HM8.out.2.2 _ _ (HSL.out 8) HSM.out X8 HM8.out.1.hv HM8.out.2.1).mono (fun e w' hh => ⟨hh.1, HM8.out.1.but hh.2.1 hh.2.2, HM8.out.2.1.but hh.2.1 HM8.out.2.2, HM8.out.2.2⟩)
      clear HM8
      go_upto_region 20 with (go_at_call 34; refine Calls.mono C8.out ?_; rintro e X9 ⟨rfl, hx⟩; have HM9 : Hid (PW n w (rds (wds b) (pv h count mark) 9) X9 ∧ RW X9 nm (wds b) 73 ∧ nm ≠ n) := hx; clear hx)
      clear C8
      have C9 : Hid (Calls Tryd.prog 35 #[.pointer (some ⟨n, 0, none⟩), .pointer (some ⟨nm, 0, none⟩)] X9 fun e w' => e = .returned (.tuple #[]) ∧ PW n w (rds (wds b) (pv h count mark) 10) w' ∧ RW w' nm (wds b) 73 ∧ nm ≠ n) := (round9_any n nm HM9.out.2.2 _ _ (HSL.out 9) HSM.out X9 HM9.out.1.hv HM9.out.2.1).mono (fun e w' hh => ⟨hh.1, HM9.out.1.but hh.2.1 hh.2.2, HM9.out.2.1.but hh.2.1 HM9.out.2.2, HM9.out.2.2⟩)
      clear HM9
      go_upto_region 21 with (go_at_call 35; refine Calls.mono C9.out ?_; rintro e X10 ⟨rfl, hx⟩; have HM10 : Hid (PW n w (rds (wds b) (pv h count mark) 10) X10 ∧ RW X10 nm (wds b) 73 ∧ nm ≠ n) := hx; clear hx)
      clear C9
      obtain ⟨V, hV⟩ : ∃ V, rds (wds b) (pv h count mark) 10 = V := ⟨_, rfl⟩
      have HV : Hid (rds (wds b) (pv h count mark) 10 = V ∧ S16 V) := ⟨hV, by rw [← hV]; exact HSL.out 10⟩
      have HM : Hid (PW n w V X10) := by
        have := HM10.out.1
        rw [hV] at this
        exact this
      have HR0 : Hid (Grow (fun k => k = gs) w X10 ∧ RS X10 gs pre post (stl h V 0) TS ∧ RW X10 n V 73 ∧ n ≠ gs) := by
        have ho := HM.out.old
        refine ⟨⟨ho.os, ho.tape, ho.output, ho.size, fun k hk _ => ho.block k (by rw [HS.out.2.2.2.2] at hk; exact hk)⟩, ?_, HM.out.hv, by have := HS.out.2.2.2.1; omega⟩
        show RS X10 gs pre post (stl h V 0) TS
        rw [stl_zero HS.out.2.2.1.len]
        exact (ho.block gs HS.out.2.2.2.1).trans HS.out.1
      clear HM10 hV HSL HSM HM
      go_wp2
      go_loopw [58] (fun v w' => ∃ i : Nat, i ≤ 8 ∧ v = .int .i64 (i : Int) ∧ Grow (fun k => k = gs) w w' ∧ RS w' gs pre post (stl h V i) TS ∧ RW w' n V 73 ∧ n ≠ gs) (fun v _ => 8 - (intOf v).toNat)
      case atStart => exact ⟨0, Nat.zero_le _, rfl, HR0.out⟩
      case round =>
        clear HR0
        obtain ⟨i, hi, rfl, hg, hr, hv, hne⟩ := hrel
        by_cases hlt : i < 8
        · have b1 : (i : Int) < 8 := by omega
          have c1 := hr.cell HS.out.2.1 (i := i) (by rw [stl_len]; exact hlt)
          have c2 := hv.cell (i := i) (by rw [HV.out.2.len]; omega)
          have c3 := hv.cell (i := i + 8) (by rw [HV.out.2.len]; omega)
          have f1 := fun k => hr.froz k
          rw [stl_at _ _ _ hlt, if_neg (by omega)] at c1
          have r1 := HS.out.2.2.1.bd.at i
          have r2 := HV.out.2.bd.at i
          have r3 := HV.out.2.bd.at (i + 8)
          have q1 := u32_xor_nat (V.getD i 0) (V.getD (i + 8) 0) r2 r3
          have q2 := u32_xor_nat (h.getD i 0) (V.getD i 0 ^^^ V.getD (i + 8) 0) r1 (xor_lt r2 r3)
          have hr1 := hr.set HS.out.2.1 (i := i) (by rw [stl_len]; exact hlt) (h.getD i 0 ^^^ (V.getD i 0 ^^^ V.getD (i + 8) 0))
          rw [stl_set h V hlt] at hr1
          have hv1 := hv.other hne (os + i) (.int .u32 ((h.getD i 0 ^^^ (V.getD i 0 ^^^ V.getD (i + 8) 0) : Nat) : Int))
          have hg1 := hg.setCell (p := ⟨gs, os + i, none⟩) (.inl rfl) (.int .u32 ((h.getD i 0 ^^^ (V.getD i 0 ^^^ V.getD (i + 8) 0) : Nat) : Int))
          obtain ⟨x1, hx1⟩ : ∃ x, h.getD i 0 = x := ⟨_, rfl⟩
          obtain ⟨x2, hx2⟩ : ∃ x, V.getD i 0 = x := ⟨_, rfl⟩
          obtain ⟨x3, hx3⟩ : ∃ x, V.getD (i + 8) 0 = x := ⟨_, rfl⟩
          rw [hx1, hx2, hx3] at q2 hr1 hv1 hg1
          rw [hx2, hx3] at q1
          rw [hx1] at c1
          rw [hx2] at c2
          rw [hx3] at c3
          obtain ⟨x4, hx4⟩ : ∃ x, x2 ^^^ x3 = x := ⟨_, rfl⟩
          rw [hx4] at q1 q2 hr1 hv1 hg1
          obtain ⟨x5, hx5⟩ : ∃ x, x1 ^^^ x4 = x := ⟨_, rfl⟩
          rw [hx5] at q2 hr1 hv1 hg1
          obtain ⟨W9, hW9⟩ : ∃ V, wr.setCell ⟨gs, os + i, none⟩ (.int .u32 (x5 : Int)) = V := ⟨_, rfl⟩
          rw [hW9] at hr1 hv1 hg1
          have HR : Hid (Grow (fun k => k = gs) w W9 ∧ RS W9 gs pre post (stl h V (i + 1)) TS ∧ RW W9 n V 73 ∧ n ≠ gs) := ⟨hg1, hr1, hv1, hne⟩
          clear hg hr hv hne hr1 hv1 hg1 r1 r2 r3 hx1 hx2 hx3 hx4 hx5
          go_upto_region 24 with fail
          go_region
          go_wp2
          exact ⟨⟨i + 1, hlt, by go_num, ⟨HR.out.1.os, HR.out.1.tape, HR.out.1.output, HR.out.1.size, HR.out.1.block⟩, HR.out.2⟩, by simp [intOf]; omega⟩
        · have hi' : i = 8 := by omega
          subst hi'
          have HR : Hid (Grow (fun k => k = gs) w wr ∧ RS wr gs pre post (prs h b count mark) TS) := ⟨hg, by
            rw [← stl_full, HV.out.1]; exact hr⟩
          clear hg hr hv hne
          go_wp2
          go_end0
          exact ⟨rfl, HR.out⟩
end Go.Proofs.YtfkbgodfcnmepabDoor
