import Derived.Test.YteimmjdiaophoaaFldT
import Derived.Test.YteimmjdiaophoaaRfA
namespace Go.Proofs.Yteimmjdiaophoaa
set_option linter.unusedSimpArgs false
open Go.ChangeShapes Go.WideShapes Go.ChangeAt Go.RowKit Go.Pin Go.Fld
theorem infoN : (Try.prog.info? 30).map (·.size) = some 16 := by kernel_rfl
theorem infoI16 : (Try.prog.info? 29).map (·.size) = some 16 := by kernel_rfl
theorem info16 {t : List Int} (h : t.length = 16) : (Try.prog.info? 29).map (·.size) = some (VI .i64 t).size := by rw [VI_size, h]; exact infoI16
theorem infoN16 {t : List Int} (h : t.length = 16) : (Try.prog.info? 30).map (·.size) = some (VI .i64 t).size := by rw [VI_size, h]; exact infoN
abbrev rowI (w : World) (g : Nat) (l : List Int) (T : TypeId) : Prop := w.heap[g]? = some (.cells (VI .i64 l) T (0, 0))
theorem rowI_cell {w : World} {g : Nat} {l : List Int} {T : TypeId} (h : rowI w g l T) {i : Nat} (hi : i < l.length) : w.cell? ⟨g, i, none⟩ = some (.int .i64 (l.getD i 0)) := by
  rw [cell_of_row w _ _ _ _ _ h, VI_at _ _ _ hi]
theorem rowI_set {w : World} {g : Nat} {l : List Int} {T : TypeId} (h : rowI w g l T) (i : Nat) (v : Int) : rowI (w.setCell ⟨g, i, none⟩ (.int .i64 v)) g (l.set i v) T := by
  unfold rowI
  rw [heap_setCell_same w _ _ _ _ _ h, VI_set]
theorem mask16 (n : Int) : bits .and .i64 n 65535 = n % 65536 := by
  have h127 : (BitVec.ofInt 64 65535).toNat = 2 ^ 16 - 1 := by decide
  have key : (BitVec.ofInt 64 n &&& BitVec.ofInt 64 65535).toNat = (n % ((2 ^ 64 : Nat) : Int)).toNat % 2 ^ 16 := by
    rw [BitVec.toNat_and, BitVec.toNat_ofInt, h127, Nat.and_two_pow_sub_one_eq_mod]
  show IntKind.i64.wrap ((BitVec.ofInt 64 n &&& BitVec.ofInt 64 65535).toNat : Nat) = n % 65536
  rw [key, IntKind.wrap_i64]
  omega
theorem mask15 (n : Int) : bits .and .i64 n 32767 = n % 32768 := by
  have h127 : (BitVec.ofInt 64 32767).toNat = 2 ^ 15 - 1 := by decide
  have key : (BitVec.ofInt 64 n &&& BitVec.ofInt 64 32767).toNat = (n % ((2 ^ 64 : Nat) : Int)).toNat % 2 ^ 15 := by
    rw [BitVec.toNat_and, BitVec.toNat_ofInt, h127, Nat.and_two_pow_sub_one_eq_mod]
  show IntKind.i64.wrap ((BitVec.ofInt 64 n &&& BitVec.ofInt 64 32767).toNat : Nat) = n % 32768
  rw [key, IntKind.wrap_i64]
  omega
set_option maxHeartbeats 400000 in
theorem prime_any (i : Nat) (hi : i < 16) (w : World) : Calls Try.prog 42 #[.int .i64 (i : Int)] w fun e w' => e = .returned (.int .i64 (pd.getD i 0)) ∧ w' = w := by
  have h16 : i = 0 ∨ i = 1 ∨ i = 2 ∨ i = 3 ∨ i = 4 ∨ i = 5 ∨ i = 6 ∨ i = 7 ∨ i = 8 ∨ i = 9 ∨ i = 10 ∨ i = 11 ∨ i = 12 ∨ i = 13 ∨ i = 14 ∨ i = 15 := by omega
  by_cases h0 : i = 0
  · subst h0
    go_enter Try.func42, Try.ntmps42
    go_wp2
    go_ret
    exact ⟨rfl, rfl⟩
  · by_cases h15 : i = 15
    · subst h15
      go_enter Try.func42, Try.ntmps42
      go_wp2
      go_ret
      exact ⟨rfl, rfl⟩
    · have e : pd.getD i 0 = 65535 := by
        rcases h16 with rfl | rfl | rfl | rfl | rfl | rfl | rfl | rfl | rfl | rfl | rfl | rfl | rfl | rfl | rfl | rfl <;> first | rfl | omega
      rw [e]
      have h0' : ¬ ((i : Int) = 0) := by omega
      have h15' : ¬ ((i : Int) = 15) := by omega
      clear h16 e
      go_enter Try.func42, Try.ntmps42
      go_wp2
      go_ret
      exact ⟨rfl, rfl⟩
theorem results_cell_tmp {P : Program} {fn : Func} {p q : Tmp} {ty : TypeId} (h : fn.results = #[.cell p ty, .tmp q]) (tmps : Array Value) (w : World) (g : Nat) (t : TypeId) (cs : Array Value) (fr : Nat × Nat) (d : TypeDesc) (v : Value)
    (hp : tmps.getD p undef = .pointer (some ⟨g, 0, none⟩)) (hq : tmps.getD q undef = v) (hg : w.heap[g]? = some (.cells cs t fr))
    (hu : P.underlying ty = some d) (hd : (match d with | .struct _ | .array _ _ => true | _ => false) = true) (hi : (P.info? ty).map (·.size) = some cs.size) :
    (results fn tmps).run P w = .ok (.tuple #[.agg cs, v]) w := by
  have hp' : tmps[p]?.getD undef = .pointer (some ⟨g, 0, none⟩) := by simpa using hp
  have hq' : tmps[q]?.getD undef = v := by simpa using hq
  simp [results, h, hp', hq', asAddr, run_loadVar_row w g t ty cs fr d hg hu hd hi]
/-- carried's boxes -/
structure CWx (n : Nat) (w : World) (t : List Int) (wr : World) : Prop where
  old : Below n w wr
  ht : rowI wr n t 29
  hr : rowI wr (n + 1) (List.replicate 16 0) 29
theorem CWx.set {n : Nat} {w wr : World} {t : List Int} (h : CWx n w t wr) (i : Nat) (v : Int) : CWx n w (t.set i v) (wr.setCell ⟨n, i, none⟩ (.int .i64 v)) :=
  ⟨h.old.setCell (by simp) _, rowI_set h.ht _ _, row_other h.hr (by simp) _⟩
theorem cwx_start (w : World) (t : List Int) : CWx w.heap.size w t ((w.alloc (.cells (VI .i64 t) 29)).alloc (.cells (VI .i64 (List.replicate 16 0)) 29)) := by
  refine ⟨((Below.refl _ _).alloc (Nat.le_refl _) _).alloc (by simp) _, ?_, ?_⟩
  all_goals simp only [rowI, heap_alloc_any, size_alloc]
  · rw [if_neg (by omega), if_pos trivial]
  · rw [if_pos trivial]
set_option maxRecDepth 100000 in
set_option maxHeartbeats 2000000 in
theorem carried_any (t : List Int) (ht : Big t) (w : World) :
    Calls Try.prog 49 #[.agg (VI .i64 t)] w fun e w' => e = .returned (.tuple #[.agg (VI .i64 (car t)), .int .i64 (cout t)]) ∧ Below w.heap.size w w' := by
  obtain ⟨hdg, _, o0, o1, z0, z1⟩ := car_facts ht
  have hl15 : (t.take 15).length = 15 := by simp [ht.len]
  have HT : Hid (Big t) := ht
  have HDG : Hid (Dig (car t)) := hdg
  have hst := cwx_start w t
  obtain ⟨W, hW⟩ : ∃ W, (w.alloc (.cells (VI .i64 t) 29)).alloc (.cells (VI .i64 (List.replicate 16 0)) 29) = W := ⟨_, rfl⟩
  rw [hW] at hst
  have hW' : (w.alloc (.cells (VI .i64 t) 29)).alloc (.cells #[.int .i64 0, .int .i64 0, .int .i64 0, .int .i64 0, .int .i64 0, .int .i64 0, .int .i64 0, .int .i64 0, .int .i64 0, .int .i64 0, .int .i64 0, .int .i64 0, .int .i64 0, .int .i64 0, .int .i64 0, .int .i64 0] 29) = W := hW
  have HST : Hid (CWx w.heap.size w t W) := hst
  have hsp := split16 ht.len
  have hd15 := ht.bd _ (getD_mem (t := t) (i := 15) (by rw [ht.len]; decide))
  obtain ⟨y, hy⟩ : ∃ y, t.getD 15 0 = y := ⟨_, rfl⟩
  rw [hy] at hsp hd15
  have HSP : Hid (t = t.take 15 ++ [y]) := hsp
  have HY : Hid (t.getD 15 0 = y) := hy
  clear hW hst ht hdg hsp hy
  go_enter Try.func49, Try.ntmps49
  go_wp2
  go_loopw [4, 5] (fun o i w' => ∃ (d r : List Int) (c : Int), i = .int .i64 (d.length : Nat) ∧ o = .int .i64 c ∧ 0 ≤ c ∧ c ≤ 1099511627776 ∧ d.length + r.length = 15 ∧ (∀ x ∈ r, 0 ≤ x ∧ x < 1125899906842624) ∧ cz 0 (t.take 15) = d ++ cz c r ∧ zo 0 (t.take 15) = zo c r ∧ CWx w.heap.size w (d ++ r ++ [y]) w') (fun _ i _ => 15 - (intOf i).toNat)
  case atStart =>
    exact ⟨[], t.take 15, 0, rfl, rfl, by decide, by decide, by simpa using hl15, fun x hx => HT.out.bd x (List.mem_of_mem_take hx), rfl, rfl, by rw [List.nil_append, ← HSP.out]; exact HST.out⟩
  case round =>
    clear HST hW'
    obtain ⟨d, r, c, rfl, rfl, c0, c1, hl, hr, hcz, hzo, hp⟩ := hrel
    cases r with
    | cons x r =>
      obtain ⟨x0, x1⟩ := hr x (by simp)
      have hcell := rowI_cell hp.ht (i := d.length) (by simp)
      rw [show (d ++ x :: r ++ [y]).getD d.length 0 = x by simp] at hcell
      have hfr : wr.frozen? ⟨w.heap.size, d.length, none⟩ = false := frozen_of_row wr _ _ _ _ hp.ht
      have hlt : d.length < 15 := by simp at hl; omega
      have hm := mask16 (x + c)
      have hset := hp.set d.length ((x + c) % 65536)
      rw [show (d ++ x :: r ++ [y]).set d.length ((x + c) % 65536) = d ++ [(x + c) % 65536] ++ r ++ [y] by simp] at hset
      have HS : Hid (CWx w.heap.size w (d ++ [(x + c) % 65536] ++ r ++ [y]) (wr.setCell ⟨w.heap.size, d.length, none⟩ (.int .i64 ((x + c) % 65536)))) := hset
      have HR : Hid (∀ y ∈ x :: r, 0 ≤ y ∧ y < 1125899906842624) := hr
      have H1 : Hid (cz 0 (t.take 15) = d ++ cz c (x :: r)) := hcz
      have H2 : Hid (zo 0 (t.take 15) = zo c (x :: r)) := hzo
      have HL : Hid (d.length + (x :: r).length = 15) := hl
      clear hr hcz hzo hl hp hset
      go_wp2
      go_roundw
      case rel =>
        exact ⟨d ++ [(x + c) % 65536], r, (x + c) / 65536, by simp, rfl, by omega, by omega, by have := HL.out; simp at this ⊢; omega, fun y hy => HR.out y (by simp [hy]), by rw [H1.out]; simp [cz], H2.out, HS.out⟩
      case measure => simp [intOf]; omega
    | nil =>
      have hd : d.length = 15 := by simpa using hl
      have hdi : ((d.length : Nat) : Int) = 15 := by omega
      have e1 : cz 0 (t.take 15) = d := by rw [hcz]; exact List.append_nil d
      have e2 : zo 0 (t.take 15) = c := hzo
      rw [List.append_nil] at hp
      have hcell := rowI_cell hp.ht (i := 15) (by simp [hd])
      rw [show (d ++ [y]).getD 15 0 = y by rw [List.getD_eq_getElem?_getD, List.getElem?_append_right (by omega)]; simp [hd]] at hcell
      have hfr : wr.frozen? ⟨w.heap.size, 15, none⟩ = false := frozen_of_row wr _ _ _ _ hp.ht
      have hm := mask15 (y + c)
      have hset := hp.set 15 ((y + c) % 32768)
      have ec : car t = d ++ [(y + c) % 32768] := by rw [car, e1, e2, HY.out]
      rw [show (d ++ [y]).set 15 ((y + c) % 32768) = d ++ [(y + c) % 32768] by rw [← hd]; simp, ← ec] at hset
      have HS : Hid (CWx w.heap.size w (car t) (wr.setCell ⟨w.heap.size, 15, none⟩ (.int .i64 ((y + c) % 32768)))) := hset
      have HO : Hid (cout t = (y + c) / 32768) := by
        have : cout t = (y + c) / 32768 := by rw [cout, e2, HY.out]
        exact this
      have HSZ : Hid ((VI .i64 (List.replicate 16 0)).size = (VI .i64 (car t)).size) := by
        have : (VI .i64 (List.replicate 16 0)).size = (VI .i64 (car t)).size := by rw [VI_size, VI_size, HDG.out.len, List.length_replicate]
        exact this
      clear hr hcz hzo hl hp hset e1 e2 ec
      go_wp2_with (with_reducible refine at_list ?_; first | (refine wpList_load_row rfl 29 (.tmp 1) rfl w.heap.size rfl 29 (VI .i64 (car t)) (0, 0) _ HS.out.ht Try.underlying29 rfl (info16 HDG.out.len) ?_) | (refine wpList_store_row rfl 29 (.tmp 2) (.tmp 30) rfl (w.heap.size + 1) (VI .i64 (car t)) rfl rfl 29 (VI .i64 (List.replicate 16 0)) HS.out.hr (info16 HDG.out.len) HSZ.out (VI_one _ _) ?_))
      refine bodyPost_ret (v := .tuple #[.agg (VI .i64 (car t)), .int .i64 ((y + c) / 32768)]) ?_ rfl ⟨by rw [HO.out], below_setRow HS.out.old _ (by omega) _⟩
      exact results_cell_tmp (P := Try.prog) (fn := Try.f49) (p := 2) (q := 3) (ty := 29) rfl _ _ (w.heap.size + 1) 29 (VI .i64 (car t)) (0, 0) _ _ rfl rfl (setRow_heap _ _ _ _ 29 _ HS.out.hr) Try.underlying29 rfl (info16 HDG.out.len)
end Go.Proofs.Yteimmjdiaophoaa
