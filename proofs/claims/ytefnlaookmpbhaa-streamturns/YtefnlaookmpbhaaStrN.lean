import Derived.Test.YtefnlaookmpbhaaStrV
namespace Go.Proofs.Ytefnlaookmpbhaa
set_option linter.unusedSimpArgs false
set_option linter.unusedVariables false
open Go.ChangeShapes Go.WideShapes Go.ChangeAt Go.RowKit Go.Pin Go.Str
/-- the cells from o on are vs -/
def putl : List Nat → Nat → List Nat → List Nat
  | L, _, [] => L
  | L, o, v :: r => putl (L.set o v) (o + 1) r
theorem putl_len : ∀ (vs : List Nat) (L : List Nat) (o : Nat), (putl L o vs).length = L.length
  | [], _, _ => rfl
  | v :: r, L, o => by rw [putl, putl_len r]; simp
theorem putl_at : ∀ (vs : List Nat) (L : List Nat) (o j : Nat), o + vs.length ≤ L.length → (putl L o vs).getD j 0 = if o ≤ j ∧ j < o + vs.length then vs.getD (j - o) 0 else L.getD j 0
  | [], L, o, j, _ => by rw [putl, if_neg (by simp)]
  | v :: r, L, o, j, h => by
    simp only [List.length_cons] at h
    rw [putl, putl_at r (L.set o v) (o + 1) j (by simp; omega)]
    by_cases e : j = o
    · subst e
      rw [if_neg (by omega), if_pos (by simp), getD_set_eq _ _ _ (by omega)]; simp
    · rw [getD_set_ne _ _ _ _ (fun h => e h.symm)]
      by_cases h2 : o + 1 ≤ j ∧ j < o + 1 + r.length
      · rw [if_pos h2, if_pos (by simp; omega), show j - o = (j - (o + 1)) + 1 by omega]; simp
      · rw [if_neg h2, if_neg (by simp; omega)]
def cellsB (vs : List Nat) : List Value := vs.map fun n : Nat => Value.int .u8 (n : Int)
theorem RB.puts : ∀ (vs : List Nat) {w : World} {g : Nat} {L : List Nat} {T : TypeId} {fr : Nat × Nat} (o : Nat), RB w g L T fr → (∀ x ∈ vs, x < 256) → RB (w.setCells g o (cellsB vs)) g (putl L o vs) T fr
  | [], _, _, _, _, _, _, h, _ => h
  | v :: r, w, g, L, T, fr, o, h, hb => by
    have h1 := h.set o v (hb v (by simp))
    exact RB.puts r (o + 1) h1 (fun x hx => hb x (by simp [hx]))
/-- a part of a box as a list -/
def sub (L : List Nat) (o n : Nat) : List Nat := (L.drop o).take n
theorem sub_len (L : List Nat) (o n : Nat) (h : o + n ≤ L.length) : (sub L o n).length = n := by simp [sub]; omega
theorem sub_at (L : List Nat) (o n j : Nat) (hj : j < n) : (sub L o n).getD j 0 = L.getD (o + j) 0 := by
  simp [sub, List.getD, List.getElem?_take_of_lt hj]
theorem sub_bd {L : List Nat} (h : ∀ x ∈ L, x < 256) (o n : Nat) : ∀ x ∈ sub L o n, x < 256 := fun x hx => h x (List.mem_of_mem_drop (List.mem_of_mem_take hx))
/-- copy of n bytes from a box into a box -/
theorem run_copyB {w : World} {gd gs : Nat} {Ld Ls : List Nat} {Td Ts : TypeId} {fd fs : Nat × Nat} (hd : RB w gd Ld Td fd) (hs : RB w gs Ls Ts fs) (od os dl dc sl sc n : Nat) (ty : TypeId) (hn : n = Nat.min sl dl) (h1 : od + n ≤ Ld.length) (h2 : os + n ≤ Ls.length) :
    (Builtin.copy_ #[40, 40] ty #[.slice (some ⟨gd, od, none⟩) dl dc, .slice (some ⟨gs, os, none⟩) sl sc]).run Try.prog w = .ok (goInt n) (w.setCells gd od (cellsB (sub Ls os n))) := by
  have hl : (cellsB (sub Ls os n)).length = n := by simp [cellsB, sub_len _ _ _ h2]
  have := run_copy_cells (P := Try.prog) w 40 40 ty 5 gd od dl dc ⟨gs, os, none⟩ sl sc (cellsB (sub Ls os n)) Try.underlying40 (by kernel_rfl) (by rw [hl, hn])
    (fun j v hv => by
      rw [add_mid]
      have hj : j < n := by rw [← hl]; exact (List.getElem?_eq_some_iff.1 hv).1
      have hv' : v = .int .u8 (((sub Ls os n).getD j 0 : Nat) : Int) := by
        have hj' : j < (sub Ls os n).length := by rw [sub_len _ _ _ h2]; exact hj
        simp only [cellsB, List.getElem?_map, List.getElem?_eq_getElem hj', Option.map_some, Option.some.injEq] at hv
        rw [← hv]; simp [List.getD, List.getElem?_eq_getElem hj']
      rw [hv', sub_at _ _ _ _ hj]
      exact hs.cell (by omega))
    (fun j hj => by rw [hl] at hj; rw [hd.cell (by omega)]; rfl)
    (fun j hj => by rw [hl] at hj; exact hd.froz (by omega))
    (fun v hv => by
      simp only [cellsB, List.mem_map] at hv
      obtain ⟨x, _, rfl⟩ := hv
      rfl)
  rw [hl] at this
  exact this
theorem wpList_copy_run {P : Program} (w : World) {ops : Array Oper} {rest : List Oper} {o : Oper} {a : Act} {Q : Exit → Act → World → Prop} (hgd : o.guard = none) (d s : Operand) (t t' : TypeId)
    (ho : o.op = .call { callee := .builtin .copy, args := #[d, s], argTypes := #[t, t'] }) (v u : Value) (hd : a.eval d = v) (hs : a.eval s = u) {v' : Value} {w' : World}
    (hr : (Builtin.copy_ #[t, t'] o.type #[v, u]).run P w = .ok v' w') (h : wpList P ops Q rest (a.put o.dst v') w') : wpList P ops Q (o :: rest) a w :=
  wpList_plain hgd fun _ hK => by
    unfold Oper.wp execOp
    simp only [ho, resolve, invoke, builtin, Sem.run_bind, Sem.run_pure, Result.andThen_ok, List.map_toArray, List.map_cons, List.map_nil, hd, hs, hr]
    exact hK _ _ h
/-- the part of a slice of bytes from a on -/
theorem run_tail (w : World) (g o n cap a : Nat) (x : Int) (hx : x = (a : Int)) (ha : a ≤ n) (hc : n ≤ cap) (hlt : a < cap) :
    (Instr.slice 40 (.slice (some ⟨g, o, none⟩) n cap) (some (.int .i64 x)) none none).run Try.prog w = .ok (.slice (some ⟨g, o + a, none⟩) (n - a) (cap - a)) w := by
  subst hx
  have e1 : ¬ cap = a := by omega
  have e2 : (⟨g, o, none⟩ : Addr).add a = ⟨g, o + a, none⟩ := add_mid g o a
  have h1 : ((a : Nat) : Int) ≤ (n : Int) := by omega
  have h2 : ((n : Nat) : Int) ≤ (cap : Int) := by omega
  simp [Instr.slice, run_underlying Try.underlying40, Instr.sliceBounds, run_sliceBound, size_u8, sliced, e1, e2, h1, h2, ha, hc]
/-! the stream -/
theorem st_at12 (key : List Nat) (c : Nat) (nonce : List Nat) : (st key c nonce).getD 12 0 = c := rfl
theorem ctr_st' (key : List Nat) (c : Nat) (nonce : List Nat) (l : Nat) : ctr (st key c nonce) l = st key (ad c l) nonce := rfl
/-- the counter at byte a -/
def cat (c a : Nat) : Nat := (c + a / 64) % 4294967296
theorem fbt_ks (key : List Nat) (c : Nat) (nonce : List Nat) (a j : Nat) (ha : a % 64 = 0) : fbt (st key (cat c a) nonce) j = ks key c nonce (a + j) := by
  unfold fbt ks
  rw [ctr_st', show ad (cat c a) (j / 64) = (c + (a + j) / 64) % 4294967296 by unfold ad cat; omega, show (a + j) % 64 = j % 64 by omega]
theorem bt_ks (key : List Nat) (c : Nat) (nonce : List Nat) (a j : Nat) (ha : a % 64 = 0) (hj : j < 64) : bt (blk (st key (cat c a) nonce)) j = ks key c nonce (a + j) := by
  unfold ks
  rw [show cat c a = (c + (a + j) / 64) % 4294967296 by unfold cat; omega, show (a + j) % 64 = j by omega]
theorem step4 (L : List Nat) (o a : Nat) (key : List Nat) (c : Nat) (nonce : List Nat) (ha : a % 64 = 0) : xr (xr L o a (ks key c nonce)) (o + a) 256 (fbt (st key (cat c a) nonce)) = xr L o (a + 256) (ks key c nonce) := by
  rw [← xr_app]; exact xr_congr fun j hj => fbt_ks _ _ _ _ _ ha
theorem step1 (L : List Nat) (o a : Nat) (key : List Nat) (c : Nat) (nonce : List Nat) (ha : a % 64 = 0) : xr (xr L o a (ks key c nonce)) (o + a) 64 (bt (blk (st key (cat c a) nonce))) = xr L o (a + 64) (ks key c nonce) := by
  rw [← xr_app]; exact xr_congr fun j hj => bt_ks _ _ _ _ _ ha hj
theorem xr_at (L : List Nat) (o n : Nat) (f : Nat → Nat) (j : Nat) (hj : j < L.length) : (xr L o n f).getD j 0 = if o ≤ j ∧ j < o + n then L.getD j 0 ^^^ f (j - o) else L.getD j 0 := by
  unfold xr
  rw [xp_at _ _ _ _ hj]
  by_cases h : o ≤ j ∧ j < o + n
  · rw [if_pos ((seg_iff _ _ _).2 h), if_pos h]
  · rw [if_neg (fun e => h ((seg_iff _ _ _).1 e)), if_neg h]
theorem step0 (L : List Nat) (o a r : Nat) (key : List Nat) (c : Nat) (nonce : List Nat) (ha : a % 64 = 0) (hr : r < 64) (ho : o + (a + r) ≤ L.length) :
    putl (xr L o a (ks key c nonce)) (o + a) (sub (xr (putl (List.replicate 64 0) 0 (sub (xr L o a (ks key c nonce)) (o + a) r)) 0 64 (bt (blk (st key (cat c a) nonce)))) 0 r) = xr L o (a + r) (ks key c nonce) := by
  have lM : (xr L o a (ks key c nonce)).length = L.length := xr_len _ _ _ _
  have lS : (sub (xr L o a (ks key c nonce)) (o + a) r).length = r := sub_len _ _ _ (by rw [lM]; omega)
  have lP : (putl (List.replicate 64 0) 0 (sub (xr L o a (ks key c nonce)) (o + a) r)).length = 64 := by rw [putl_len, List.length_replicate]
  have lX : (sub (xr (putl (List.replicate 64 0) 0 (sub (xr L o a (ks key c nonce)) (o + a) r)) 0 64 (bt (blk (st key (cat c a) nonce)))) 0 r).length = r := sub_len _ _ _ (by rw [xr_len, lP]; omega)
  apply list_ext (by rw [putl_len, xr_len, xr_len])
  intro j hj
  rw [putl_len, lM] at hj
  rw [putl_at _ _ _ _ (by rw [lX, lM]; omega), lX, xr_at L o (a + r) (ks key c nonce) j hj]
  by_cases h : o + a ≤ j ∧ j < o + a + r
  · rw [if_pos h, if_pos (by omega), sub_at _ _ _ _ (by omega), xr_at _ _ _ _ _ (by rw [lP]; omega), if_pos (by omega), putl_at _ _ _ _ (by rw [lS, List.length_replicate]; omega), lS, if_pos (by omega), Nat.zero_add, Nat.sub_zero, sub_at _ _ _ _ (by omega), show o + a + (j - (o + a)) = j by omega, xr_at _ _ _ _ _ hj, if_neg (by omega), bt_ks _ _ _ _ _ ha (by omega), show a + (j - (o + a)) = j - o by omega]
  · rw [if_neg h, xr_at _ _ _ _ _ hj]
    by_cases h2 : o ≤ j ∧ j < o + a
    · rw [if_pos h2, if_pos (by omega)]
    · rw [if_neg h2, if_neg (by omega)]
theorem cat4 (c a : Nat) (ha : a % 64 = 0) : ad (cat c a) 4 = cat c (a + 256) := by unfold ad cat; omega
theorem cat1 (c a : Nat) (ha : a % 64 = 0) : ad (cat c a) 1 = cat c (a + 64) := by unfold ad cat; omega
theorem cat_lt (c a : Nat) : cat c a < 4294967296 := Nat.mod_lt _ (by decide)
theorem cat0 (c : Nat) (h : c < 4294967296) : cat c 0 = c := by unfold cat; omega
/-! what is logged -/
def log4 : Nat → List (Int × Int)
  | 0 => []
  | k + 1 => log4 k ++ [(1, 1), (2, ((256 * k : Nat) : Int)), (3, 21)]
def log1 (a : Nat) : Nat → List (Int × Int)
  | 0 => []
  | k + 1 => log1 a k ++ [(1, 1), (2, ((a + 64 * k : Nat) : Int)), (3, 22)]
def xlog (n : Nat) : List (Int × Int) :=
  log4 (n / 256) ++ [(1, 0)] ++ log1 (256 * (n / 256)) (n % 256 / 64) ++ [(1, 0)] ++ (if 0 < n % 64 then [(1, 1), (2, ((64 * (n / 64) : Nat) : Int)), (3, 22)] else [(1, 0)])
theorem log4_len (k : Nat) : (log4 k).length = 3 * k := by induction k with | zero => rfl | succ k ih => simp [log4, ih]; omega
theorem log1_len (a k : Nat) : (log1 a k).length = 3 * k := by induction k with | zero => rfl | succ k ih => simp [log1, ih]; omega
theorem xlog_len (n : Nat) : (xlog n).length ≤ n + 20 := by
  simp only [xlog, List.length_append, log4_len, log1_len]
  split <;> simp <;> omega
end Go.Proofs.Ytefnlaookmpbhaa
