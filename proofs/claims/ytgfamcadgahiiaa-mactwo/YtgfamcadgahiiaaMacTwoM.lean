import Derived.Test.YtgfamcadgahiiaaMacO
import Derived.Test.YtgfamcadgahiiaaMrB
import Derived.Test.YtgfamcadgahiiaaMacM
import Derived.Test.YtgfamcadgahiiaaPrmH
namespace Go.Proofs.Ytgfamcadgahiiaa
set_option linter.unusedSimpArgs false
set_option linter.unusedVariables false
open Go.ChangeShapes Go.WideShapes Go.ChangeAt Go.RowKit Go.Pin Go.Prm Go.Deep
/-- a script -/
abbrev Stp := Bool × List Int
def Scr (W : World) (a : Option Addr) (l : List Stp) : Prop := ∀ i, i < l.length → ∃ b o u, a = some ⟨b, o, none⟩ ∧ W.cell? ⟨b, o + i * 2, none⟩ = some (.bool (l.getD i (false, [])).1) ∧ W.cell? ⟨b, o + i * 2 + 1, none⟩ = some u ∧ RdB W u (l.getD i (false, [])).2
theorem open_script {H : Type} {enc : TypeId × Value → H} {W : World} {a : Option Addr} {len cap : Nat} {d : DataW H} {p : List MemPlace}
    (h : DataW.Trod enc Try.prog W 0 (fun _ => true) true 24 (.slice a len cap) d p) : ∃ l : List Stp, l.length = len ∧ Scr W a l ∧ (∀ q ∈ l, Byt q.2 ∧ q.2.length ≤ maxLen) := by
  have he : Try.prog.underlying 33 = _ := Try.underlying33
  obtain ⟨fuel, hf⟩ := h
  rcases open_slice Try.underlying24 hf with ⟨hcs, _⟩ | ⟨x, len', cap', m, n, D, Pl, hcs, _, hl, hm, hmm, _, hx⟩
  · simp [Value.cells] at hcs
    obtain ⟨rfl, rfl, rfl⟩ := hcs
    exact ⟨[], rfl, (fun j hj => nomatch hj), (fun D hD => nomatch hD)⟩
  · simp [Value.cells] at hcs
    obtain ⟨rfl, rfl, rfl⟩ := hcs
    have hlm : len ≤ m := by rw [hmm]; split <;> omega
    have ce : Try.prog.cellsOf 33 = 2 := by kernel_rfl
    have cb : Try.prog.cellsOf 4 = 1 := by kernel_rfl
    have cl : Try.prog.cellsOf 30 = 1 := by kernel_rfl
    have each : ∀ i, i < len → ∃ q : Value × Stp, W.cell? (x.add (i * 2)) = some (.bool q.2.1) ∧ W.cell? (x.add (i * 2 + 1)) = some q.1 ∧ RdB W q.1 q.2.2 ∧ Byt q.2.2 ∧ q.2.2.length ≤ maxLen := by
      intro i hi
      obtain ⟨cs', h1, h2⟩ := hx i (by omega)
      rw [ce] at h1
      obtain ⟨_, hlen, hcell⟩ := World.cells?_some h1
      obtain ⟨xs, k, hk, hxy, _, hxl, hf⟩ := DataW.trod_struct he h2
      match xs, hxl with
      | [y0, y1], _ =>
        have g0 := hf 0 _ rfl
        have g1 := hf 1 _ rfl
        simp only [List.getElem_toArray, List.getElem_cons_zero, List.getElem_cons_succ, cb, cl, List.getElem?_cons_zero, List.getElem?_cons_succ] at g0 g1
        obtain ⟨z0, hz0, _⟩ := DataW.trod_bool Try.underlying4 g0
        obtain ⟨v, D, hc, hr, hb, hm⟩ := open_cells g1
        have e0 : cs'[0]? = some (.bool z0) := by
          have := congrArg (fun z => z[0]?) hz0
          simpa using this
        have e1 : cs'[1]? = some v := by
          have := congrArg (fun z => z[0]?) hc
          simpa using this
        refine ⟨(v, z0, D), ?_, ?_, hr, hb, hm⟩
        · have e := hcell 0 (by omega)
          rw [add_add, e0] at e
          exact e
        · have e := hcell 1 (by omega)
          rw [add_add, e1] at e
          exact e
    obtain ⟨q, hq⟩ := choose_lt each
    have hat : ∀ j, j < len → ((List.range len).map (fun i => (q i).2)).getD j (false, []) = (q j).2 := fun j hj => by simp [List.getD, hj]
    refine ⟨(List.range len).map (fun i => (q i).2), by simp, fun j hj => ?_, fun D hD => ?_⟩
    · have hj' : j < len := by simpa using hj
      have h0 := (hq 0 (by omega)).1
      rw [Nat.zero_mul] at h0
      obtain ⟨b, o, rfl⟩ := add_spot h0
      have h1 := (hq j hj').1
      have h2 := (hq j hj').2.1
      rw [add_mid] at h1 h2
      refine ⟨b, o, (q j).1, rfl, ?_, by rw [Nat.add_assoc]; exact h2, ?_⟩
      · rw [hat j hj']; exact h1
      · rw [hat j hj']
        exact (hq j hj').2.2.1
    · simp only [List.mem_map, List.mem_range] at hD
      obtain ⟨i, hi, rfl⟩ := hD
      exact (hq i hi).2.2.2
end Go.Proofs.Ytgfamcadgahiiaa

namespace Go.Proofs.Ytgfamcadgahiiaa
set_option linter.unusedSimpArgs false
set_option linter.unusedVariables false
open Go.ChangeShapes Go.WideShapes Go.ChangeAt Go.RowKit Go.Pin Go.Prm
theorem wpList_app {P : Program} (w : World) {ops : Array Oper} {rest : List Oper} {o : Oper} {a : Act} {Q : Exit → Act → World → Prop} {R : Value → World → Prop} (hgd : o.guard = none) (d s : Operand) (t t' : TypeId)
    (ho : o.op = .call { callee := .builtin .append, args := #[d, s], argTypes := #[t, t'] }) (v u : Value) (hd : a.eval d = v) (hs : a.eval s = u)
    (hr : ∀ ty, ∃ v' w', (Builtin.append_ #[t, t'] ty #[v, u]).run P w = .ok v' w' ∧ R v' w') (h : ∀ v' w', R v' w' → wpList P ops Q rest (a.put o.dst v') w') : wpList P ops Q (o :: rest) a w :=
  wpList_plain hgd fun _ hK => by
    obtain ⟨v', w', h1, h2⟩ := hr o.type
    unfold Oper.wp execOp
    simp only [ho, resolve, invoke, builtin, Sem.run_bind, Sem.run_pure, Result.andThen_ok, List.map_toArray, List.map_cons, List.map_nil, hd, hs, h1]
    exact hK _ _ (h v' w' h2)
theorem Lst.slice {T : TypeId} {sz : Nat} {v : Value} {n : Nat} {xs : List Value} {lb : List (Nat × Obj)} (h : Lst T sz v n xs lb) : ∃ a c, v = .slice a n c := by
  rcases h.2 with ⟨h1, h2, _⟩ | ⟨g, cap, cur, h1, _⟩
  · exact ⟨none, 0, by rw [h1, h2]⟩
  · exact ⟨_, _, h1⟩
/-- a list of bytes is read -/
theorem Lst.rdb {v : Value} {A : List Int} {lb : List (Nat × Obj)} (h : Lst 5 1 v A.length (A.map (Value.int .u8)) lb) {W : World} (hat : ∀ p ∈ lb, W.heap[p.1]? = some p.2) : RdB W v A := by
  rcases h.2 with ⟨h1, h2, _⟩ | ⟨g, cap, cur, h1, h2, h3, h4, h5, h6⟩
  · have e : A = [] := List.length_eq_zero_iff.1 h2
    subst e
    exact ⟨none, 0, h1, Nat.le_refl _, .inl rfl⟩
  · refine ⟨_, cap, h1, h3, .inr ⟨g, 0, rfl, fun j u hu => ?_⟩⟩
    have hrow := hat (g, .cells cur 5 (0, 0)) (by rw [h2]; exact mem0)
    have hj : j < A.length := by have := (List.getElem?_eq_some_iff.1 hu).1; rw [List.length_map] at this; exact this
    rw [cell_of_row W _ _ _ _ _ hrow, Nat.zero_add, ← hu, ← h6, List.getElem?_take_of_lt (by omega)]
    simp
/-- a Mac that has taken M beside a list of bytes A -/
def AS (q : Nat) (W : World) (g : Nat) (key M A : List Int) (vl : Value) (w' : World) : Prop :=
  ∃ lb, Lst 5 1 vl A.length (A.map (Value.int .u8)) lb ∧ Ev q W (.pointer none) [] (lb ++ [(g, mst (.pointer none) key M)]) w' ∧ (∀ p ∈ lb, p.1 ≠ g)
section
variable {q : Nat} {W : World} {g : Nat} {key M A : List Int} {vl : Value} {w' : World}
theorem AS.old (h : AS q W g key M A vl w') : Below q W w' := by
  obtain ⟨lb, _, h, _⟩ := h
  exact h.old
theorem AS.slice (h : AS q W g key M A vl w') : ∃ a c, vl = .slice a A.length c := by
  obtain ⟨lb, h, _⟩ := h
  exact h.slice
theorem AS.below (h : AS q W g key M A vl w') {w2 : World} (hb : Below w'.heap.size w' w2) : AS q W g key M A vl w2 := by
  obtain ⟨lb, h1, h2, h3⟩ := h
  exact ⟨lb, h1, h2.below hb, h3⟩
theorem AS.flip (lb : List (Nat × Obj)) (x : Nat × Obj) (h : Ev q W (.pointer none) [] (lb ++ [x]) w') : Ev q W (.pointer none) [] (x :: lb) w' := h.sub (fun p hp => by
  rcases List.mem_cons.1 hp with rfl | hp
  · exact List.mem_append_right _ mem0
  · exact List.mem_append_left _ hp)
theorem AS.unflip {l : List (Int × Int)} (lb : List (Nat × Obj)) (x : Nat × Obj) (h : Ev q W (.pointer none) l (x :: lb) w') : Ev q W (.pointer none) [] (lb ++ [x]) w' := (h.nilOf []).sub (fun p hp => by
  rcases List.mem_append.1 hp with hp | hp
  · exact memr1 hp
  · rw [List.mem_singleton.1 hp]; exact mem0)
theorem AS.write (h : AS q W g key M A vl w') (hk : Key32 key) (hM : Byt M) {u : Value} {D : List Int} (hD : Byt D) (hl : D.length ≤ 600000) (hS : Src q W [] u D) :
    Calls Try.prog 16 #[.pointer (some ⟨g, 0, none⟩), u] w' fun e w2 => e = .returned (.tuple #[]) ∧ AS q W g key (M ++ D) A vl w2 := by
  obtain ⟨lb, h1, h2, h3⟩ := h
  refine (mwrite_any (AS.flip _ _ h2) h3 (by simp; omega) hk hM hD (hS.sub (by simp))).mono ?_
  rintro e w2 ⟨rfl, h4⟩
  exact ⟨rfl, lb, h1, AS.unflip _ _ h4, h3⟩
theorem AS.tag (h : AS q W g key M A vl w') (hk : Key32 key) (hM : Byt M) :
    Calls Try.prog 13 #[.pointer (some ⟨g, 0, none⟩)] w' fun e w2 => e = .returned (.agg (VI .u8 (mtag key M))) ∧ AS q W g key M A vl w2 := by
  obtain ⟨lb, h1, h2, h3⟩ := h
  refine (mtag_any (AS.flip _ _ h2) (by decide) hk hM).mono ?_
  rintro e w2 ⟨rfl, h4⟩
  exact ⟨rfl, lb, h1, AS.unflip _ _ h4, h3⟩
theorem AS.app (h : AS q W g key M A vl w') {u : Value} {D : List Int} (hS : Src q W [] u D) (hn : A.length + D.length ≤ 1000000) (ty : TypeId) :
    ∃ v' w2, (Builtin.append_ #[30, 30] ty #[vl, u]).run Try.prog w' = .ok v' w2 ∧ AS q W g key M (A ++ D) v' w2 := by
  obtain ⟨lb, h1, h2, h3⟩ := h
  obtain ⟨v', w2, hr, lb', hL, he, hd⟩ := h2.appB h1 (fun p hp r hr => by rw [List.mem_singleton.1 hr]; exact fun e => h3 p hp e.symm) ty (hS.sub (by simp)) hn
  exact ⟨v', w2, hr, lb', by rw [List.length_append]; exact hL, he, fun p hp e => hd p hp _ mem0 e.symm⟩
theorem AS.rtag (h : AS q W g key M A vl w') {k : List Int} (hk : Key32 k) (hA : Byt A) (hn : A.length ≤ 1000000) :
    Calls Try.prog 14 #[.agg (VI .u8 k), vl] w' fun e w2 => e = .returned (.agg (VI .u8 (mtag k A))) ∧ AS q W g key M A vl w2 := by
  obtain ⟨a, c, rfl⟩ := h.slice
  have hr : RdB w' (.slice a A.length c) A := by
    obtain ⟨lb, h1, h2, _⟩ := h
    exact h1.rdb (fun p hp => h2.at' p (List.mem_append_left _ hp))
  exact (rtag_any w' k hk A hA a A.length c hr hn).mono (fun e w2 hh => ⟨hh.1, h.below hh.2⟩)
end
/-! the zero Mac -/
def z32 : List Int := List.replicate 32 0
theorem z32_key : Key32 z32 := ⟨rfl, by decide⟩
theorem rOf_z32 : rOf z32 = z5 := by decide +kernel
theorem sOf_z32 : sOf z32 = z16 := by decide +kernel
theorem zero_mac : mst (.pointer none) z32 [] = macO (.pointer none) z5 z16 z5 z17 0 := by rw [mst_zero, rOf_z32, sOf_z32]
theorem num_accN0 {r : List Int} (hr : Lim r) (h0 : num r = 0) : ∀ (j : Nat) (s D : List Int), Lim s → Byt D → num s = 0 → num (accN r j s D) = 0
  | 0, _, _, _, _, h => h
  | j + 1, s, D, hs, hD, h => by
    have hb : Byt (blkOf (D.take 16)) := blkOf_byt (fun x hx => hD x (List.mem_of_mem_take hx))
    exact num_accN0 hr h0 j _ _ (wth_lim hr hs hb) (fun x hx => hD x (List.mem_of_mem_drop hx)) (by rw [num_wth hr hs hb, h0]; simp)
theorem mtag_zero {D : List Int} (hD : Byt D) : mtag z32 D = List.replicate 16 0 := by
  have : num (facc (rOf z32) z5 D) = 0 := num_accN0 (rOf_lim z32_key.len z32_key.bd) (by rw [rOf_z32]; exact num_z5) _ _ _ z5_lim hD num_z5
  unfold mtag
  rw [this, sOf_z32]
  decide +kernel
set_option maxRecDepth 100000 in
theorem write_nil (u : Value) (W : World) : Calls Try.prog 16 #[.pointer none, u] W fun e w' => e = .returned (.tuple #[]) ∧ w' = W := by
  go_enter Try.func16, Try.ntmps16
  go_wp2
  first | go_end0 | refine bodyPost_ret (results_none rfl _ _ _) rfl ?_
  exact ⟨rfl, rfl⟩
end Go.Proofs.Ytgfamcadgahiiaa

namespace Go.Proofs.Ytgfamcadgahiiaa
set_option linter.unusedSimpArgs false
set_option linter.unusedVariables false
open Go.ChangeShapes Go.WideShapes Go.ChangeAt Go.RowKit Go.Pin Go.Prm
theorem scr_at {W : World} {q : Nat} (hq : W.heap.size = q) {a : Option Addr} {S : List Stp} (h : Scr W a S) (hb : ∀ q ∈ S, Byt q.2 ∧ q.2.length ≤ maxLen) (i : Nat) (hi : i < S.length) : ∃ b o u, a = some ⟨b, o, none⟩ ∧ (∀ Y, Below q W Y → Y.cell? ⟨b, o + i * 2, none⟩ = some (.bool (S.getD i (false, [])).1) ∧ Y.cell? ⟨b, o + i * 2 + 1, none⟩ = some u) ∧ (∀ bx, Src q W bx u (S.getD i (false, [])).2) ∧ Byt (S.getD i (false, [])).2 ∧ (S.getD i (false, [])).2.length ≤ maxLen := by
  obtain ⟨b, o, u, h1, h2, h3, h4⟩ := h i hi
  have hm : S.getD i (false, []) ∈ S := by rw [List.getD_eq_getElem?_getD, List.getElem?_eq_getElem hi]; exact List.getElem_mem _
  refine ⟨b, o, u, h1, fun Y hY => ⟨?_, ?_⟩, fun bx => by rw [← hq]; exact h4.src bx, (hb _ hm).1, (hb _ hm).2⟩
  · rw [World.cell?_of_block (a := ⟨b, o + i * 2, none⟩) (hY.block b (by rw [← hq]; exact World.block_lt_of_cell? W _ h2))]
    exact h2
  · rw [World.cell?_of_block (a := ⟨b, o + i * 2 + 1, none⟩) (hY.block b (by rw [← hq]; exact World.block_lt_of_cell? W _ h2))]
    exact h3
theorem tag_nil' (W : World) : Calls Try.prog 13 #[.pointer none] W fun e w' => e = .returned (.agg (VI .u8 z16)) ∧ Below W.heap.size W w' := tag_nil W
theorem mtag_zero' {D : List Int} (hD : Byt D) : mtag z32 D = z16 := mtag_zero hD
theorem wrapL {m : Nat} (h : m ≤ 131072) : wrap64 (131072 - (m : Int)) = ((131072 - m : Nat) : Int) ∧ IntKind.i64.wrap (131072 - (m : Int)) = ((131072 - m : Nat) : Int) := by
  rw [IntWalk.wrap64_in _ ⟨by omega, by omega⟩, IntWalk.i64_in _ ⟨by omega, by omega⟩]
  omega
set_option maxRecDepth 100000 in
set_option maxHeartbeats 16000000 in
theorem nothing_walk (S : List Stp) (a : Option Addr) (cap : Nat) (W : World) (hS : Scr W a S) (hb : ∀ q ∈ S, Byt q.2 ∧ q.2.length ≤ maxLen) :
    Calls Try.prog 7 #[.slice a S.length cap] W fun e w' => e = .returned (.bool true) ∧ Below W.heap.size W w' := by
  have e1 := (ev_nil' W).new (mst (.pointer none) z32 [])
  obtain ⟨q, hq⟩ : ∃ q, W.heap.size = q := ⟨_, rfl⟩
  have HSC : Hid (∀ i, i < S.length → ∃ b o u, a = some ⟨b, o, none⟩ ∧ (∀ Y, Below q W Y → Y.cell? ⟨b, o + i * 2, none⟩ = some (.bool (S.getD i (false, [])).1) ∧ Y.cell? ⟨b, o + i * 2 + 1, none⟩ = some u) ∧ (∀ bx, Src q W bx u (S.getD i (false, [])).2) ∧ Byt (S.getD i (false, [])).2 ∧ (S.getD i (false, [])).2.length ≤ maxLen) := fun i hi => scr_at hq hS hb i hi
  obtain ⟨W0, hW0⟩ : ∃ V, W.alloc (mst (.pointer none) z32 []) = V := ⟨_, rfl⟩
  rw [hW0, hq] at e1
  rw [zero_mac] at hW0
  have hW0' : W.alloc (.cells #[.pointer none, .int .u64 0, .int .u64 0, .int .u64 0, .int .u64 0, .int .u64 0, .int .u8 0, .int .u8 0, .int .u8 0, .int .u8 0, .int .u8 0, .int .u8 0, .int .u8 0, .int .u8 0, .int .u8 0, .int .u8 0, .int .u8 0, .int .u8 0, .int .u8 0, .int .u8 0, .int .u8 0, .int .u8 0, .int .u64 0, .int .u64 0, .int .u64 0, .int .u64 0, .int .u64 0, .int .u8 0, .int .u8 0, .int .u8 0, .int .u8 0, .int .u8 0, .int .u8 0, .int .u8 0, .int .u8 0, .int .u8 0, .int .u8 0, .int .u8 0, .int .u8 0, .int .u8 0, .int .u8 0, .int .u8 0, .int .u8 0, .int .u8 0, .int .i64 0] 69) = W0 := hW0
  have E1 : Hid (AS q W q z32 [] [] (.slice none 0 0) W0) := ⟨[], lst_nil _ _, e1, (fun p hp => nomatch hp)⟩
  rw [hq]
  obtain ⟨n, hn⟩ : ∃ n, S.length = n := ⟨_, rfl⟩
  rw [hn] at HSC ⊢
  have EQ0 : ∀ w, (Op.equalIn 10000 36 (.agg (VI .u8 z16)) (.agg #[.int .u8 0, .int .u8 0, .int .u8 0, .int .u8 0, .int .u8 0, .int .u8 0, .int .u8 0, .int .u8 0, .int .u8 0, .int .u8 0, .int .u8 0, .int .u8 0, .int .u8 0, .int .u8 0, .int .u8 0, .int .u8 0])).run Try.prog w = .ok true w := fun w => by
    have := eqT (x := z16) (y := z16) rfl rfl w
    rw [beq_self_eq_true] at this
    exact this
  have HB0 : Hid (Below q W W) := Below.refl _ _
  clear e1 hS hb hn hW0
  by_cases hbig : n ≤ 400
  · have b0 : ¬ (400 : Int) < (n : Int) := by omega
    have b0' : ¬ 400 < n := by omega
    have HB : Hid (n ≤ 400) := hbig
    clear hbig
    go_enter Try.func7, Try.ntmps7
    go_wp2
    go_loopw [5, 6] (fun vl vi w' => ∃ (i : Nat) (A : List Int), i ≤ n ∧ vi = .int .i64 (i : Int) ∧ A.length ≤ 131072 ∧ Byt A ∧ AS q W q z32 A A vl w') (fun _ vi _ => n - (intOf vi).toNat)
    case atStart => exact ⟨0, [], Nat.zero_le _, rfl, by simp, (fun x hx => nomatch hx), E1.out⟩
    case round =>
      clear E1 hW0'
      obtain ⟨i, A, hi, rfl, hA, hAb, has⟩ := hrel
      have HA : Hid (A.length ≤ 131072 ∧ Byt A ∧ i ≤ n) := ⟨hA, hAb, hi⟩
      obtain ⟨al, cl, rfl⟩ := has.slice
      have HAS : Hid (AS q W q z32 A A (.slice al A.length cl) wr) := has
      clear hA hAb has
      by_cases hlt : i < n
      · have b1 : (i : Int) < (n : Int) := by omega
        obtain ⟨b, o, u, rfl, hcc, hsu, hDb, hDm⟩ := HSC.out i hlt
        obtain ⟨D, hD⟩ : ∃ D, (S.getD i (false, [])).2 = D := ⟨_, rfl⟩
        obtain ⟨ask, hask⟩ : ∃ k, (S.getD i (false, [])).1 = k := ⟨_, rfl⟩
        rw [hD] at hsu hDb hDm
        rw [hask] at hcc
        have HCC : Hid _ := hcc
        obtain ⟨c1, c2⟩ := hcc wr HAS.out.old
        obtain ⟨au, cu, rfl, _, _⟩ := id (hsu [])
        obtain ⟨m, hm⟩ : ∃ m, D.length = m := ⟨_, rfl⟩
        obtain ⟨t, ht⟩ : ∃ t, A.length = t := ⟨_, rfl⟩
        have HD : Hid (Byt D ∧ D.length = m ∧ A.length = t ∧ (∀ bx, Src q W bx (.slice au m cu) D)) := ⟨hDb, hm, ht, by rw [← hm]; exact hsu⟩
        have HI1 : Hid (i < n ∧ n ≤ 400) := ⟨hlt, HB.out⟩
        rw [hm] at c2
        rw [ht] at HAS ⊢
        have htb : t ≤ 131072 := by rw [← ht]; exact HA.out.1
        have HWL : Hid (wrap64 (131072 - (t : Int)) = ((131072 - t : Nat) : Int) ∧ IntKind.i64.wrap (131072 - (t : Int)) = ((131072 - t : Nat) : Int)) := wrapL htb
        obtain ⟨r, hr⟩ : ∃ r, 131072 - t = r := ⟨_, rfl⟩
        rw [hr] at HWL
        clear hcc hsu hDb hDm hD hask hm ht hi
        by_cases hgt : r < m
        · have b2 : (r : Int) < (m : Int) := by omega
          have HF : Hid (Below q W wr) := HAS.out.old
          obtain ⟨hw, hw'⟩ := HWL.out
          clear htb hr
          go_wp2
          go_ret
          exact ⟨rfl, HF.out⟩
        · have b2 : ¬ (r : Int) < (m : Int) := by omega
          have HMT : Hid (t + m ≤ 131072) := by show t + m ≤ 131072; omega
          obtain ⟨hw, hw'⟩ := HWL.out
          have CWN : Hid (Calls Try.prog 16 #[.pointer none, .slice au m cu] wr fun e w' => e = .returned (.tuple #[]) ∧ w' = wr) := write_nil _ wr
          have CW : Hid (Calls Try.prog 16 #[.pointer (some ⟨q, 0, none⟩), .slice au m cu] wr fun e w' => e = .returned (.tuple #[]) ∧ AS q W q z32 (A ++ D) A (.slice al t cl) w') := HAS.out.write z32_key HA.out.2.1 HD.out.1 (by rw [HD.out.2.1]; have := HMT.out; omega) (HD.out.2.2.2 [])
          clear htb hr hgt
          cases ask
          · go_wp2_with (first | (go_at_call 16; first | (refine Calls.mono CWN.out ?_; rintro e w2 ⟨rfl, hV⟩; obtain rfl := hV; clear CWN) | (refine Calls.mono CW.out ?_; rintro e w3 ⟨rfl, h3⟩; have HAP : Hid _ := fun ty => AS.app (u := .slice au m cu) h3 (HD.out.2.2.2 []) (by rw [HD.out.2.1, HD.out.2.2.1]; have := HMT.out; omega) ty; clear h3)) | (at_builtin; refine wpList_app _ rfl (.tmp 36) (.tmp 37) 30 30 rfl _ _ rfl rfl HAP.out ?_; intro v5 w5 h5; have c5 := (HCC.out w5 h5.old).1; have H5 : Hid _ := h5; clear h5))
            go_roundw
            case rel => exact ⟨i + 1, A ++ D, HI1.out.1, by go_num, by rw [List.length_append, HD.out.2.1, HD.out.2.2.1]; exact HMT.out, (fun x hx => by
              rcases List.mem_append.1 hx with hx | hx
              · exact HA.out.2.1 x hx
              · exact HD.out.1 x hx), H5.out⟩
            case measure => have := HI1.out; simp only [intOf]; omega
          · have HADB : Hid (Byt (A ++ D) ∧ (A ++ D).length ≤ 131072) := by
              have : Byt (A ++ D) ∧ (A ++ D).length ≤ 131072 := ⟨(fun x hx => by
                rcases List.mem_append.1 hx with hx | hx
                · exact HA.out.2.1 x hx
                · exact HD.out.1 x hx), by rw [List.length_append, HD.out.2.1, HD.out.2.2.1]; exact HMT.out⟩
              exact this
            have EQT : ∀ w, (Op.equalIn 10000 36 (.agg (VI .u8 (mtag z32 (A ++ D)))) (.agg (VI .u8 (mtag z32 (A ++ D))))).run Try.prog w = .ok true w := fun w => by
              rw [eqT (mtag_len _ _) (mtag_len _ _), beq_self_eq_true]
            go_wp2_with (first | (go_at_call 16; first | (refine Calls.mono CWN.out ?_; rintro e w2 ⟨rfl, hV⟩; obtain rfl := hV; clear CWN) | (refine Calls.mono CW.out ?_; rintro e w3 ⟨rfl, h3⟩; have HAP : Hid _ := fun ty => AS.app (u := .slice au m cu) h3 (HD.out.2.2.2 []) (by rw [HD.out.2.1, HD.out.2.2.1]; have := HMT.out; omega) ty; clear h3)) | (at_builtin; refine wpList_app _ rfl (.tmp 36) (.tmp 37) 30 30 rfl _ _ rfl rfl HAP.out ?_; intro v5 w5 h5; have c5 := (HCC.out w5 h5.old).1; have CTN : Hid _ := tag_nil' w5; have H5 : Hid _ := h5; clear h5) | (go_at_call 13; first | (refine Calls.mono CTN.out ?_; rintro e w6 ⟨rfl, hb6⟩; have h6 := AS.below H5.out hb6; have CT : Hid _ := AS.tag h6 z32_key HADB.out.1; clear h6 hb6 CTN) | (refine Calls.mono CT.out ?_; rintro e w7 ⟨rfl, h7⟩; have CR : Hid _ := AS.rtag (k := z32) h7 z32_key HADB.out.1 (by have := HADB.out.2; omega); clear h7)) | (go_at_call 14; refine Calls.mono CR.out ?_; rintro e w8 ⟨rfl, h8⟩; have H8 : Hid _ := h8; clear h8))
            go_roundw
            case rel => exact ⟨i + 1, A ++ D, HI1.out.1, by go_num, HADB.out.2, HADB.out.1, H8.out⟩
            case measure => have := HI1.out; simp only [intOf]; omega
      · have b1 : ¬ (i : Int) < (n : Int) := by omega
        have CTN : Hid (Calls Try.prog 13 #[.pointer none] wr fun e w' => e = .returned (.agg (VI .u8 z16)) ∧ AS q W q z32 A A (.slice al A.length cl) w') := (tag_nil' wr).mono (fun e w' hh => ⟨hh.1, HAS.out.below hh.2⟩)
        clear hi
        go_wp2_with (first | (go_at_call 13; first | (refine Calls.mono CTN.out ?_; rintro e w6 ⟨rfl, h6⟩; have CT : Hid _ := AS.tag h6 z32_key HA.out.2.1; rw [mtag_zero' HA.out.2.1] at CT; clear h6 CTN) | (refine Calls.mono CT.out ?_; rintro e w7 ⟨rfl, h7⟩; have CK : Hid (Calls Try.prog 21 #[] w7 fun e w' => e = .returned (.bool true) ∧ Below q W w') := (known_any w7).mono (fun e w' hh => ⟨hh.1, (AS.below h7 hh.2).old⟩); clear h7)) | (go_at_call 21; refine Calls.mono CK.out ?_; rintro e w8 ⟨rfl, h8⟩; have H8 : Hid _ := h8; clear h8))
        go_ret
        exact ⟨rfl, H8.out⟩
  · have b0 : (400 : Int) < (n : Int) := by omega
    have b0' : 400 < n := by omega
    go_enter Try.func7, Try.ntmps7
    go_wp2
    go_ret
    exact ⟨rfl, HB0.out⟩
end Go.Proofs.Ytgfamcadgahiiaa

namespace Go.Proofs.Ytgfamcadgahiiaa
set_option linter.unusedSimpArgs false
set_option linter.unusedVariables false
open Go.ChangeShapes Go.WideShapes Go.ChangeAt Go.RowKit Go.Pin Go.Prm
/-- one of the two: its Mac at g, its key's box at k, the key, what it has taken, its list -/
structure One where
  g : Nat
  k : Nat
  key : List Int
  M : List Int
  A : List Int
  v : Value
def One.fx (o : One) : List (Nat × Obj) := [(o.g, mst (.pointer none) o.key o.M), (o.k, .cells (VI .u8 o.key) 23)]
/-- both -/
def TS (q : Nat) (W : World) (x y : One) (w' : World) : Prop :=
  ∃ lx ly, Lst 5 1 x.v x.A.length (x.A.map (Value.int .u8)) lx ∧ Lst 5 1 y.v y.A.length (y.A.map (Value.int .u8)) ly ∧ Ev q W (.pointer none) [] (lx ++ (ly ++ (x.fx ++ y.fx))) w' ∧ (∀ p ∈ lx, ∀ r ∈ ly ++ (x.fx ++ y.fx), r.1 ≠ p.1) ∧ (∀ p ∈ ly, ∀ r ∈ x.fx ++ y.fx, r.1 ≠ p.1) ∧ (x.k ≠ x.g ∧ y.g ≠ x.g ∧ y.k ≠ x.g ∧ x.k ≠ y.g ∧ y.k ≠ y.g)
section
variable {q : Nat} {W : World} {x y : One} {w' : World}
theorem perm3 {α : Type} {a b c d : List α} {p : α} (h : p ∈ b ++ (a ++ (d ++ c))) : p ∈ a ++ (b ++ (c ++ d)) := by
  simp only [List.mem_append] at h ⊢
  rcases h with h | h | h | h
  · exact .inr (.inl h)
  · exact .inl h
  · exact .inr (.inr (.inr h))
  · exact .inr (.inr (.inl h))
theorem TS.swap (h : TS q W x y w') : TS q W y x w' := by
  obtain ⟨lx, ly, h1, h2, h3, h4, h5, h6⟩ := h
  refine ⟨ly, lx, h2, h1, h3.sub (fun p hp => perm3 hp), fun p hp r hr => ?_, fun p hp r hr => ?_, ⟨h6.2.2.2.2, fun e => h6.2.1 e.symm, h6.2.2.2.1, h6.2.2.1, h6.1⟩⟩
  · simp only [List.mem_append] at hr
    rcases hr with hr | hr | hr
    · exact fun e => h4 r hr p (List.mem_append_left _ hp) e.symm
    · exact h5 p hp r (List.mem_append_right _ hr)
    · exact h5 p hp r (List.mem_append_left _ hr)
  · simp only [List.mem_append] at hr
    rcases hr with hr | hr
    · exact h4 p hp r (List.mem_append_right _ (List.mem_append_right _ hr))
    · exact h4 p hp r (List.mem_append_right _ (List.mem_append_left _ hr))
theorem TS.old (h : TS q W x y w') : Below q W w' := by
  obtain ⟨lx, ly, _, _, h, _⟩ := h
  exact h.old
theorem TS.slice (h : TS q W x y w') : ∃ a c, x.v = .slice a x.A.length c := by
  obtain ⟨lx, ly, h, _⟩ := h
  exact h.slice
theorem TS.below (h : TS q W x y w') {w2 : World} (hb : Below w'.heap.size w' w2) : TS q W x y w2 := by
  obtain ⟨lx, ly, h1, h2, h3, h4⟩ := h
  exact ⟨lx, ly, h1, h2, h3.below hb, h4⟩
theorem TS.key (h : TS q W x y w') : w'.heap[x.k]? = some (.cells (VI .u8 x.key) 23) := by
  obtain ⟨lx, ly, _, _, h, _⟩ := h
  exact h.row (List.mem_append_right _ (List.mem_append_right _ (List.mem_append_left _ mem1)))
/-- the Mac of one ahead -/
theorem TS.front (h : TS q W x y w') : ∃ lx ly, Lst 5 1 x.v x.A.length (x.A.map (Value.int .u8)) lx ∧ Lst 5 1 y.v y.A.length (y.A.map (Value.int .u8)) ly ∧ Ev q W (.pointer none) [] ((x.g, mst (.pointer none) x.key x.M) :: (lx ++ (ly ++ ([(x.k, .cells (VI .u8 x.key) 23)] ++ y.fx)))) w' ∧ (∀ p ∈ lx ++ (ly ++ ([(x.k, Obj.cells (VI .u8 x.key) 23)] ++ y.fx)), p.1 ≠ x.g) ∧
    (∀ w2 (M' : List Int) l, Ev q W (.pointer none) l ((x.g, mst (.pointer none) x.key M') :: (lx ++ (ly ++ ([(x.k, .cells (VI .u8 x.key) 23)] ++ y.fx)))) w2 → TS q W { x with M := M' } y w2) := by
  obtain ⟨lx, ly, h1, h2, h3, h4, h5, h6⟩ := h
  refine ⟨lx, ly, h1, h2, h3.sub (fun p hp => ?_), fun p hp => ?_, fun w2 M' l h7 => ⟨lx, ly, h1, h2, (h7.nilOf []).sub (fun p hp => ?_), fun p hp r hr => ?_, fun p hp r hr => ?_, h6⟩⟩
  · simp only [One.fx, List.mem_cons, List.mem_append, List.not_mem_nil, or_false] at hp ⊢
    rcases hp with hp | hp | hp | hp | hp | hp
    · exact .inr (.inr (.inl (.inl hp)))
    · exact .inl hp
    · exact .inr (.inl hp)
    · exact .inr (.inr (.inl (.inr hp)))
    · exact .inr (.inr (.inr (.inl hp)))
    · exact .inr (.inr (.inr (.inr hp)))
  · simp only [One.fx, List.mem_cons, List.mem_append, List.not_mem_nil, or_false] at hp
    rcases hp with hp | hp | rfl | rfl | rfl
    · exact fun e => h4 p hp (x.g, mst (.pointer none) x.key x.M) (by simp [One.fx]) e.symm
    · exact fun e => h5 p hp (x.g, mst (.pointer none) x.key x.M) (by simp [One.fx]) e.symm
    · exact h6.1
    · exact h6.2.1
    · exact h6.2.2.1
  · simp only [One.fx, List.mem_cons, List.mem_append, List.not_mem_nil, or_false] at hp ⊢
    rcases hp with hp | hp | (hp | hp) | hp | hp
    · exact .inr (.inl hp)
    · exact .inr (.inr (.inl hp))
    · exact .inl hp
    · exact .inr (.inr (.inr (.inl hp)))
    · exact .inr (.inr (.inr (.inr (.inl hp))))
    · exact .inr (.inr (.inr (.inr (.inr hp))))
  · simp only [One.fx, List.mem_cons, List.mem_append, List.not_mem_nil, or_false] at hr
    rcases hr with hr | (rfl | rfl) | rfl | rfl
    · exact h4 p hp r (List.mem_append_left _ hr)
    · exact h4 p hp (x.g, mst (.pointer none) x.key x.M) (by simp [One.fx])
    · exact h4 p hp (x.k, .cells (VI .u8 x.key) 23) (by simp [One.fx])
    · exact h4 p hp (y.g, mst (.pointer none) y.key y.M) (by simp [One.fx])
    · exact h4 p hp (y.k, .cells (VI .u8 y.key) 23) (by simp [One.fx])
  · simp only [One.fx, List.mem_cons, List.mem_append, List.not_mem_nil, or_false] at hr
    rcases hr with (rfl | rfl) | rfl | rfl
    · exact h5 p hp (x.g, mst (.pointer none) x.key x.M) (by simp [One.fx])
    · exact h5 p hp (x.k, .cells (VI .u8 x.key) 23) (by simp [One.fx])
    · exact h5 p hp (y.g, mst (.pointer none) y.key y.M) (by simp [One.fx])
    · exact h5 p hp (y.k, .cells (VI .u8 y.key) 23) (by simp [One.fx])
theorem TS.write (h : TS q W x y w') (hk : Key32 x.key) (hM : Byt x.M) {u : Value} {D : List Int} (hD : Byt D) (hl : D.length ≤ 600000) (hS : Src q W [] u D) :
    Calls Try.prog 16 #[.pointer (some ⟨x.g, 0, none⟩), u] w' fun e w2 => e = .returned (.tuple #[]) ∧ TS q W { x with M := x.M ++ D } y w2 := by
  obtain ⟨lx, ly, h1, h2, h3, h4, h5⟩ := h.front
  refine (mwrite_any h3 h4 (by simp; omega) hk hM hD (hS.sub (by simp))).mono ?_
  rintro e w2 ⟨rfl, h6⟩
  exact ⟨rfl, h5 _ _ _ h6⟩
theorem TS.tag (h : TS q W x y w') (hk : Key32 x.key) (hM : Byt x.M) :
    Calls Try.prog 13 #[.pointer (some ⟨x.g, 0, none⟩)] w' fun e w2 => e = .returned (.agg (VI .u8 (mtag x.key x.M))) ∧ TS q W x y w2 := by
  obtain ⟨lx, ly, h1, h2, h3, h4, h5⟩ := h.front
  refine (mtag_any h3 (by decide) hk hM).mono ?_
  rintro e w2 ⟨rfl, h6⟩
  exact ⟨rfl, h5 _ _ _ h6⟩
theorem TS.app (h : TS q W x y w') {u : Value} {D : List Int} (hS : Src q W [] u D) (hn : x.A.length + D.length ≤ 1000000) (ty : TypeId) :
    ∃ v' w2, (Builtin.append_ #[30, 30] ty #[x.v, u]).run Try.prog w' = .ok v' w2 ∧ TS q W { x with A := x.A ++ D, v := v' } y w2 := by
  obtain ⟨lx, ly, h1, h2, h3, h4, h5, h6⟩ := h
  obtain ⟨v', w2, hr, lb', hL, he, hd⟩ := h3.appB h1 h4 ty (hS.sub (by simp)) hn
  exact ⟨v', w2, hr, lb', ly, by rw [List.length_append]; exact hL, h2, he, hd, h5, h6⟩
theorem TS.rtag (h : TS q W x y w') (hk : Key32 x.key) (hA : Byt x.A) (hn : x.A.length ≤ 1000000) :
    Calls Try.prog 14 #[.agg (VI .u8 x.key), x.v] w' fun e w2 => e = .returned (.agg (VI .u8 (mtag x.key x.A))) ∧ TS q W x y w2 := by
  obtain ⟨a, c, hv⟩ := h.slice
  have hr : RdB w' (.slice a x.A.length c) x.A := by
    obtain ⟨lx, ly, h1, _, h3, _⟩ := h
    rw [hv] at h1
    exact h1.rdb (fun p hp => h3.at' p (List.mem_append_left _ hp))
  rw [hv]
  exact (rtag_any w' x.key hk x.A hA a x.A.length c hr hn).mono (fun e w2 hh => ⟨hh.1, h.below hh.2⟩)
end
end Go.Proofs.Ytgfamcadgahiiaa

namespace Go.Proofs.Ytgfamcadgahiiaa
set_option linter.unusedSimpArgs false
set_option linter.unusedVariables false
open Go.ChangeShapes Go.WideShapes Go.ChangeAt Go.RowKit Go.Pin Go.Prm
theorem if_false_mpr {b : Bool} {x y : Prop} (hb : b = false) (h : y) : if b = true then x else y := by rw [hb]; simpa using h
theorem hidAct {K : Act → Prop} {a : Act} (h : ∀ aa, aa = a → K aa) : K a := h a rfl
theorem below_drew (w : World) : Below w.heap.size w w.drew := ⟨rfl, rfl, rfl, Nat.le_refl _, fun _ _ => rfl⟩
theorem wrapL2 {a b : Nat} (h : b ≤ a) (ha : a ≤ 131072) : wrap64 ((a : Int) - (b : Int)) = ((a - b : Nat) : Int) ∧ IntKind.i64.wrap ((a : Int) - (b : Int)) = ((a - b : Nat) : Int) := by
  rw [IntWalk.wrap64_in _ ⟨by omega, by omega⟩, IntWalk.i64_in _ ⟨by omega, by omega⟩]
  omega
/-- a third one, begun meanwhile -/
theorem third {W : World} {key : List Int} (hk : Key32 key) : Calls Try.prog 10 #[.pointer none, .agg (VI .u8 key)] W fun e w1 => ∃ gc g8, e = .returned (.pointer (some ⟨gc, 0, none⟩)) ∧ w1.heap.size = g8 ∧ Calls Try.prog 16 #[.pointer (some ⟨gc, 0, none⟩), .slice (some ⟨g8, 0, none⟩) 1 1] (w1.alloc (.cells #[.int .u8 7] 5)) fun e w2 => e = .returned (.tuple #[]) ∧ Calls Try.prog 13 #[.pointer (some ⟨gc, 0, none⟩)] w2 fun e w3 => e = .returned (.agg (VI .u8 (mtag key [7]))) ∧ Below W.heap.size W w3 := by
  refine (mnew_any (ev_nil' W) hk).mono ?_
  rintro e w1 ⟨gc, rfl, _, h1⟩
  have h2 := h1.new (.cells (VI .u8 [7]) 5)
  have hlt := h1.lt mem0
  refine ⟨gc, _, rfl, rfl, ?_⟩
  refine (mwrite_any (D := [7]) h2.flip (fun p hp => by rw [List.mem_singleton.1 hp]; show w1.heap.size ≠ gc; omega) (by decide) hk (fun x hx => nomatch hx) (by decide) (src_box (L := [7]) mem0 0 1 1 (by decide) (by decide))).mono ?_
  rintro e w2 ⟨rfl, h3⟩
  rw [List.nil_append [7]] at h3
  refine ⟨rfl, ?_⟩
  refine (mtag_any h3 (by decide) hk (by decide)).mono ?_
  rintro e w3 ⟨rfl, h4⟩
  exact ⟨rfl, h4.old⟩
set_option maxRecDepth 100000 in
set_option maxHeartbeats 32000000 in
theorem two_walk (one two : List Int) (hk1 : Key32 one) (hk2 : Key32 two) (S : List Stp) (a : Option Addr) (cap : Nat) (W : World) (hS : Scr W a S) (hb : ∀ q ∈ S, Byt q.2 ∧ q.2.length ≤ maxLen) :
    Calls Try.prog 6 #[.agg (VI .u8 one), .agg (VI .u8 two), .slice a S.length cap] W fun e w' => e = .returned (.bool true) ∧ Below W.heap.size W w' := by
  have e1 := ((ev_nil' W).new (.cells (VI .u8 one) 23)).new (.cells (VI .u8 two) 23)
  obtain ⟨q, hq⟩ : ∃ q, W.heap.size = q := ⟨_, rfl⟩
  have HSC : Hid (∀ i, i < S.length → ∃ b o u, a = some ⟨b, o, none⟩ ∧ (∀ Y, Below q W Y → Y.cell? ⟨b, o + i * 2, none⟩ = some (.bool (S.getD i (false, [])).1) ∧ Y.cell? ⟨b, o + i * 2 + 1, none⟩ = some u) ∧ (∀ bx, Src q W bx u (S.getD i (false, [])).2) ∧ Byt (S.getD i (false, [])).2 ∧ (S.getD i (false, [])).2.length ≤ maxLen) := fun i hi => scr_at hq hS hb i hi
  simp only [size_alloc, hq] at e1
  obtain ⟨V0, hV0⟩ : ∃ V, W.alloc (.cells (VI .u8 one) 23) = V := ⟨_, rfl⟩
  obtain ⟨W0, hW0⟩ : ∃ V, V0.alloc (.cells (VI .u8 two) 23) = V := ⟨_, rfl⟩
  have s0 : V0.heap.size = q + 1 := by rw [← hV0, size_alloc, hq]
  rw [hV0, hW0] at e1
  rw [hq]
  obtain ⟨n, hn⟩ : ∃ n, S.length = n := ⟨_, rfl⟩
  rw [hn] at HSC ⊢
  have HK : Hid (Key32 one ∧ Key32 two) := ⟨hk1, hk2⟩
  have HI1 : Hid ((Try.prog.info? 23).map (·.size) = some (VI .u8 one).size) := by
    have : (Try.prog.info? 23).map (·.size) = some (VI .u8 one).size := by rw [VI_size, hk1.len]; exact infoK
    exact this
  have HI2 : Hid ((Try.prog.info? 23).map (·.size) = some (VI .u8 two).size) := by
    have : (Try.prog.info? 23).map (·.size) = some (VI .u8 two).size := by rw [VI_size, hk2.len]; exact infoK
    exact this
  have HJ1 : Hid ((Try.prog.info? 23).map (·.size) = some one.length) := by
    have : (Try.prog.info? 23).map (·.size) = some one.length := by rw [hk1.len]; exact infoK
    exact this
  have HJ2 : Hid ((Try.prog.info? 23).map (·.size) = some two.length) := by
    have : (Try.prog.info? 23).map (·.size) = some two.length := by rw [hk2.len]; exact infoK
    exact this
  have HB0 : Hid (Below q W W0) := e1.old
  by_cases hbig : n ≤ 400
  · have b0 : ¬ (400 : Int) < (n : Int) := by omega
    have b0' : ¬ 400 < n := by omega
    have HB : Hid (n ≤ 400) := hbig
    have HLD : Hid (W0.rangeAt q 0 (one.map (Value.int .u8))) := row_range (e1.row mem1)
    have CN : Hid (Calls Try.prog 10 #[.pointer none, .agg (VI .u8 one)] W0 fun e w' => ∃ ga, e = .returned (.pointer (some ⟨ga, 0, none⟩)) ∧ q + 1 < ga ∧ Ev q W (.pointer none) [] [(ga, mst (.pointer none) one []), (q + 1, .cells (VI .u8 two) 23), (q, .cells (VI .u8 one) 23)] w') := (mnew_any e1 hk1).mono (fun e w' hh => by
      obtain ⟨g, rfl, hg, hh⟩ := hh
      have := e1.lt mem0
      exact ⟨g, rfl, by omega, hh⟩)
    clear e1 hS hb hn hbig hk1 hk2
    go_enter Try.func6, Try.ntmps6
    go_upto_region 4 with (first | (go_at_call 10; refine Calls.mono CN.out ?_; rintro e W1 ⟨ga, rfl, hga, h1⟩; have H1 : Hid _ := h1; have HGA : Hid (q + 1 < ga) := hga; clear h1 hga) | (with_reducible refine at_list ?_; first | (refine load_midI rfl 23 (.tmp 3) rfl q 0 rfl .u8 one _ HLD.out Try.underlying23 rfl HJ1.out ?_)))
    have HLD2 : Hid (W1.rangeAt (q + 1) 0 (two.map (Value.int .u8))) := row_range (H1.out.row mem1)
    have CN2 : Hid (Calls Try.prog 10 #[.pointer none, .agg (VI .u8 two)] W1 fun e w' => ∃ gb, e = .returned (.pointer (some ⟨gb, 0, none⟩)) ∧ TS q W ⟨ga, q, one, [], [], .slice none 0 0⟩ ⟨gb, q + 1, two, [], [], .slice none 0 0⟩ w') := (mnew_any H1.out HK.out.2).mono (fun e w' hh => by
      obtain ⟨gb, rfl, hg, hh⟩ := hh
      have k1 := H1.out.lt mem0
      have k2 := HGA.out
      refine ⟨gb, rfl, [], [], lst_nil _ _, lst_nil _ _, hh.sub (fun p hp => ?_), (fun p hp => nomatch hp), (fun p hp => nomatch hp), ⟨?_, ?_, ?_, ?_, ?_⟩⟩
      · simp only [One.fx, List.nil_append, List.cons_append, List.mem_cons, List.not_mem_nil, or_false] at hp ⊢
        rcases hp with hp | hp | hp | hp
        · exact .inr (.inl hp)
        · exact .inr (.inr (.inr hp))
        · exact .inl hp
        · exact .inr (.inr (.inl hp))
      · show q ≠ ga; omega
      · show gb ≠ ga; omega
      · show q + 1 ≠ ga; omega
      · show q ≠ gb; omega
      · show q + 1 ≠ gb; omega)
    clear CN HLD
    go_upto_region 7 with (first | (go_at_call 10; refine Calls.mono CN2.out ?_; rintro e W2 ⟨gb, rfl, h2⟩; have H2 : Hid _ := h2; clear h2) | (with_reducible refine at_list ?_; first | (refine load_midI rfl 23 (.tmp 4) rfl (q + 1) 0 rfl .u8 two _ HLD2.out Try.underlying23 rfl HJ2.out ?_)))
    clear CN2 HLD2 H1 hV0 hW0 s0 hq
    go_wp2_with fail
    go_loopw [9, 10, 11] (fun vx vy vi w' => ∃ (i : Nat) (X Y : List Int), i ≤ n ∧ vi = .int .i64 (i : Int) ∧ (X.length + Y.length ≤ 131072 ∧ Byt X ∧ Byt Y) ∧ TS q W ⟨ga, q, one, X, X, vx⟩ ⟨gb, q + 1, two, Y, Y, vy⟩ w') (fun _ _ vi _ => n - (intOf vi).toNat)
    case atStart => exact ⟨0, [], [], Nat.zero_le _, rfl, ⟨by simp, (fun x hx => nomatch hx), (fun x hx => nomatch hx)⟩, H2.out⟩
    case round =>
      clear H2
      obtain ⟨i, X, Y, hi, rfl, hXY, hts⟩ := hrel
      obtain ⟨ax, cx, rfl⟩ : ∃ ax cx, u9 = .slice ax X.length cx := TS.slice (x := ⟨ga, q, one, X, X, u9⟩) hts
      obtain ⟨ay, cy, rfl⟩ : ∃ ay cy, u10 = .slice ay Y.length cy := TS.slice (x := ⟨gb, q + 1, two, Y, Y, u10⟩) hts.swap
      obtain ⟨tx, htx⟩ : ∃ t, X.length = t := ⟨_, rfl⟩
      obtain ⟨ty, hty⟩ : ∃ t, Y.length = t := ⟨_, rfl⟩
      rw [htx] at hts ⊢
      rw [hty] at hts ⊢
      have HXY : Hid (X.length + Y.length ≤ 131072 ∧ Byt X ∧ Byt Y) := hXY
      have HTL : Hid (X.length = tx ∧ Y.length = ty ∧ tx + ty ≤ 131072) := ⟨htx, hty, by rw [← htx, ← hty]; exact hXY.1⟩
      have HTS : Hid (TS q W ⟨ga, q, one, X, X, (.slice ax tx cx)⟩ ⟨gb, q + 1, two, Y, Y, (.slice ay ty cy)⟩ wr) := hts
      clear hXY hts htx hty
      by_cases hlt : i < n
      · have b1 : (i : Int) < (n : Int) := by omega
        obtain ⟨b, o, u, rfl, hcc, hsu, hDb, hDm⟩ := HSC.out i hlt
        obtain ⟨D, hD⟩ : ∃ D, (S.getD i (false, [])).2 = D := ⟨_, rfl⟩
        obtain ⟨ask, hask⟩ : ∃ k, (S.getD i (false, [])).1 = k := ⟨_, rfl⟩
        rw [hD] at hsu hDb hDm
        rw [hask] at hcc
        have HCC : Hid (∀ Y, Below q W Y → Y.cell? ⟨b, o + i * 2, none⟩ = some (.bool ask) ∧ Y.cell? ⟨b, o + i * 2 + 1, none⟩ = some u) := hcc
        obtain ⟨c1, c2⟩ := hcc wr HTS.out.old
        obtain ⟨au, cu, rfl, _, _⟩ := id (hsu [])
        obtain ⟨m, hm⟩ : ∃ m, D.length = m := ⟨_, rfl⟩
        have HD : Hid (Byt D ∧ D.length = m ∧ (∀ bx, Src q W bx (.slice au m cu) D)) := ⟨hDb, hm, by rw [← hm]; exact hsu⟩
        have HIN : Hid (i < n ∧ n ≤ 400) := ⟨hlt, HB.out⟩
        rw [hm] at c2
        have HWL : Hid (∃ rx r, tx + rx = 131072 ∧ rx = ty + r ∧ wrap64 (131072 - (tx : Int)) = (rx : Int) ∧ IntKind.i64.wrap (131072 - (tx : Int)) = (rx : Int) ∧ wrap64 ((rx : Int) - (ty : Int)) = (r : Int) ∧ IntKind.i64.wrap ((rx : Int) - (ty : Int)) = (r : Int)) := by
          have hb3 := HTL.out.2.2
          have k1 := wrapL (m := tx) (by omega)
          have k2 := wrapL2 (a := 131072 - tx) (b := ty) (by omega) (by omega)
          exact ⟨131072 - tx, 131072 - tx - ty, by omega, by omega, k1.1, k1.2, k2.1, k2.2⟩
        clear hcc hsu hDb hDm hD hask hm hi
        obtain ⟨rx, r, hrx, hr, hwr⟩ := HWL.out
        have HWR : Hid _ := hwr
        clear hwr HWL
        by_cases hgt : r < m
        · have b2 : (r : Int) < (m : Int) := by omega
          have HF : Hid (Below q W wr) := HTS.out.old
          obtain ⟨w1, w2, w3, w4⟩ := HWR.out
          clear hrx hr
          go_wp2
          go_ret
          exact ⟨rfl, HF.out⟩
        · have b2 : ¬ (r : Int) < (m : Int) := by omega
          have HMT : Hid (tx + ty + m ≤ 131072 ∧ m ≤ 131072) := ⟨by omega, by omega⟩
          have HXD : Hid (Byt (X ++ D) ∧ Byt (Y ++ D) ∧ (X ++ D).length = tx + m ∧ (Y ++ D).length = ty + m) := by
            have : Byt (X ++ D) ∧ Byt (Y ++ D) ∧ (X ++ D).length = tx + m ∧ (Y ++ D).length = ty + m := ⟨(fun x hx => by
              rcases List.mem_append.1 hx with hx | hx
              · exact HXY.out.2.1 x hx
              · exact HD.out.1 x hx), (fun x hx => by
              rcases List.mem_append.1 hx with hx | hx
              · exact HXY.out.2.2 x hx
              · exact HD.out.1 x hx), by rw [List.length_append, HTL.out.1, HD.out.2.1], by rw [List.length_append, HTL.out.2.1, HD.out.2.1]⟩
            exact this
          obtain ⟨w1, w2, w3, w4⟩ := HWR.out
          clear hrx hr hgt
          go_upto_if 49 with fail
          go_cut [9, 10] (fun vx vy wx => ∃ X2 Y2 : List Int, (X2.length + Y2.length ≤ 131072 ∧ Byt X2 ∧ Byt Y2) ∧ TS q W ⟨ga, q, one, X2, X2, vx⟩ ⟨gb, q + 1, two, Y2, Y2, vy⟩ wx)
          case first =>
            clear w1 w2 w3 w4
            by_cases hpar : i % 2 = 0
            · have b3 : (i : Int) % 2 = 0 := by omega
              have b4 : ((i : Int) % 2 == 0) = true := by simp; omega
              have b5 : (2 : Int) ∣ (i : Int) := by omega
              have CW : Hid (Calls Try.prog 16 #[.pointer (some ⟨ga, 0, none⟩), .slice au m cu] wr fun e w' => e = .returned (.tuple #[]) ∧ TS q W ⟨ga, q, one, X ++ D, X, .slice ax tx cx⟩ ⟨gb, q + 1, two, Y, Y, .slice ay ty cy⟩ w') := TS.write (x := ⟨ga, q, one, X, X, .slice ax tx cx⟩) HTS.out HK.out.1 HXY.out.2.1 HD.out.1 (by rw [HD.out.2.1]; have := HMT.out.2; omega) (HD.out.2.2 [])
              go_wp2_with (first | (go_at_call 16; refine Calls.mono CW.out ?_; rintro e w3 ⟨rfl, h3⟩; have HAP : Hid _ := fun ty' => TS.app (x := ⟨ga, q, one, X ++ D, X, .slice ax tx cx⟩) (u := .slice au m cu) h3 (HD.out.2.2 []) (by show X.length + D.length ≤ 1000000; rw [HD.out.2.1, HTL.out.1]; have := HMT.out.1; omega) ty'; clear h3) | (at_builtin; refine wpList_app _ rfl (.tmp 53) (.tmp 54) 30 30 rfl _ _ rfl rfl HAP.out ?_; intro v5 w5 h5; have H5 : Hid _ := h5; clear h5))
              go_meet
              exact ⟨X ++ D, Y, ⟨by rw [HXD.out.2.2.1, HTL.out.2.1]; have := HMT.out.1; omega, HXD.out.1, HXY.out.2.2⟩, H5.out⟩
            · have b3 : ¬ (i : Int) % 2 = 0 := by omega
              have b4 : ((i : Int) % 2 == 0) = false := by simp; omega
              have b5 : ¬ (2 : Int) ∣ (i : Int) := by omega
              have CW : Hid (Calls Try.prog 16 #[.pointer (some ⟨gb, 0, none⟩), .slice au m cu] wr fun e w' => e = .returned (.tuple #[]) ∧ TS q W ⟨gb, q + 1, two, Y ++ D, Y, .slice ay ty cy⟩ ⟨ga, q, one, X, X, .slice ax tx cx⟩ w') := TS.write (x := ⟨gb, q + 1, two, Y, Y, .slice ay ty cy⟩) HTS.out.swap HK.out.2 HXY.out.2.2 HD.out.1 (by rw [HD.out.2.1]; have := HMT.out.2; omega) (HD.out.2.2 [])
              go_wp2_with (first | (go_at_call 16; refine Calls.mono CW.out ?_; rintro e w3 ⟨rfl, h3⟩; have HAP : Hid _ := fun ty' => TS.app (x := ⟨gb, q + 1, two, Y ++ D, Y, .slice ay ty cy⟩) (u := .slice au m cu) h3 (HD.out.2.2 []) (by show Y.length + D.length ≤ 1000000; rw [HD.out.2.1, HTL.out.2.1]; have := HMT.out.1; omega) ty'; clear h3) | (at_builtin; refine wpList_app _ rfl (.tmp 59) (.tmp 60) 30 30 rfl _ _ rfl rfl HAP.out ?_; intro v5 w5 h5; have H5 : Hid _ := TS.swap h5; clear h5))
              go_meet
              exact ⟨X, Y ++ D, ⟨by rw [HXD.out.2.2.2, HTL.out.1]; have := HMT.out.1; omega, HXY.out.2.1, HXD.out.2.1⟩, H5.out⟩
          case rest =>
            clear w1 w2 w3 w4 c1 c2
            obtain ⟨X2, Y2, hx2, hts2⟩ := hcut
            have HX2 : Hid (X2.length + Y2.length ≤ 131072 ∧ Byt X2 ∧ Byt Y2) := hx2
            have HT2 : Hid (TS q W ⟨ga, q, one, X2, X2, u9⟩ ⟨gb, q + 1, two, Y2, Y2, u10⟩ _) := hts2
            clear hx2 hts2 HTS HXY HTL HXD HMT HWR HD
            have c3 := fun (V : World) (h : TS q W ⟨ga, q, one, X2, X2, u9⟩ ⟨gb, q + 1, two, Y2, Y2, u10⟩ V) => (third (W := V) HK.out.2)
            have l3 := fun (V : World) (h : TS q W ⟨ga, q, one, X2, X2, u9⟩ ⟨gb, q + 1, two, Y2, Y2, u10⟩ V) => (row_range (TS.key (TS.swap h)))
            have CN3 : Hid _ := c3 _ HT2.out
            have HLD3 : Hid (World.rangeAt _ (q + 1) 0 (two.map (Value.int .u8))) := l3 _ HT2.out
            clear c3 l3
            go_upto_if 63 with fail
            go_cut [13] (fun _ wx => TS q W ⟨ga, q, one, X2, X2, u9⟩ ⟨gb, q + 1, two, Y2, Y2, u10⟩ wx)
            case first =>
              by_cases hi1 : i = 1
              · have b7 : ((i : Int) == 1) = true := by simp; omega
                clear hi1
                go_wp2_with (first | (go_at_call 10; refine Calls.mono CN3.out ?_; rintro e w6 ⟨gc, g8, rfl, hg8, cw⟩; have CW3 : Hid _ := cw; clear cw) | (go_at_call 16; refine Calls.mono CW3.out ?_; rintro e w7 ⟨rfl, ct⟩; have CT3 : Hid _ := ct; clear ct) | (go_at_call 13; refine Calls.mono CT3.out ?_; rintro e w8 ⟨rfl, hb8⟩; have H8 : Hid _ := TS.below HT2.out hb8; clear hb8) | (with_reducible refine at_list ?_; first | (refine load_midI rfl 23 (.tmp 4) rfl (q + 1) 0 rfl .u8 two _ HLD3.out Try.underlying23 rfl HJ2.out ?_)))
                go_meet
                exact H8.out
              · have b6 : ¬ (i : Int) = 1 := by omega
                have b7 : ((i : Int) == 1) = false := by simp; omega
                go_wp2_with fail
                go_meet
                exact HT2.out
            case rest =>
              have HT3 : Hid (TS q W ⟨ga, q, one, X2, X2, u9⟩ ⟨gb, q + 1, two, Y2, Y2, u10⟩ _) := hcut
              clear hcut HT2 CN3 HLD3
              have EQA : ∀ w, (Op.equalIn 10000 36 (.agg (VI .u8 (mtag one X2))) (.agg (VI .u8 (mtag one X2)))).run Try.prog w = .ok true w := fun w => by
                rw [eqT (mtag_len _ _) (mtag_len _ _), beq_self_eq_true]
              have EQB : ∀ w, (Op.equalIn 10000 36 (.agg (VI .u8 (mtag two Y2))) (.agg (VI .u8 (mtag two Y2)))).run Try.prog w = .ok true w := fun w => by
                rw [eqT (mtag_len _ _) (mtag_len _ _), beq_self_eq_true]
              have HTA : Hid (∀ Z, TS q W ⟨ga, q, one, X2, X2, u9⟩ ⟨gb, q + 1, two, Y2, Y2, u10⟩ Z → Calls Try.prog 13 #[.pointer (some ⟨ga, 0, none⟩)] Z fun e w2 => e = .returned (.agg (VI .u8 (mtag one X2))) ∧ TS q W ⟨ga, q, one, X2, X2, u9⟩ ⟨gb, q + 1, two, Y2, Y2, u10⟩ w2) := by
                have : ∀ Z, TS q W ⟨ga, q, one, X2, X2, u9⟩ ⟨gb, q + 1, two, Y2, Y2, u10⟩ Z → Calls Try.prog 13 #[.pointer (some ⟨ga, 0, none⟩)] Z fun e w2 => e = .returned (.agg (VI .u8 (mtag one X2))) ∧ TS q W ⟨ga, q, one, X2, X2, u9⟩ ⟨gb, q + 1, two, Y2, Y2, u10⟩ w2 := fun Z hZ => TS.tag (x := ⟨ga, q, one, X2, X2, u9⟩) hZ HK.out.1 HX2.out.2.1
                exact this
              have HRA : Hid (∀ Z, TS q W ⟨ga, q, one, X2, X2, u9⟩ ⟨gb, q + 1, two, Y2, Y2, u10⟩ Z → Calls Try.prog 14 #[.agg (VI .u8 one), u9] Z fun e w2 => e = .returned (.agg (VI .u8 (mtag one X2))) ∧ TS q W ⟨ga, q, one, X2, X2, u9⟩ ⟨gb, q + 1, two, Y2, Y2, u10⟩ w2) := by
                have : ∀ Z, TS q W ⟨ga, q, one, X2, X2, u9⟩ ⟨gb, q + 1, two, Y2, Y2, u10⟩ Z → Calls Try.prog 14 #[.agg (VI .u8 one), u9] Z fun e w2 => e = .returned (.agg (VI .u8 (mtag one X2))) ∧ TS q W ⟨ga, q, one, X2, X2, u9⟩ ⟨gb, q + 1, two, Y2, Y2, u10⟩ w2 := fun Z hZ => TS.rtag (x := ⟨ga, q, one, X2, X2, u9⟩) hZ HK.out.1 HX2.out.2.1 (by have := HX2.out.1; show X2.length ≤ 1000000; omega)
                exact this
              have HTB : Hid (∀ Z, TS q W ⟨ga, q, one, X2, X2, u9⟩ ⟨gb, q + 1, two, Y2, Y2, u10⟩ Z → Calls Try.prog 13 #[.pointer (some ⟨gb, 0, none⟩)] Z fun e w2 => e = .returned (.agg (VI .u8 (mtag two Y2))) ∧ TS q W ⟨ga, q, one, X2, X2, u9⟩ ⟨gb, q + 1, two, Y2, Y2, u10⟩ w2) := by
                have : ∀ Z, TS q W ⟨ga, q, one, X2, X2, u9⟩ ⟨gb, q + 1, two, Y2, Y2, u10⟩ Z → Calls Try.prog 13 #[.pointer (some ⟨gb, 0, none⟩)] Z fun e w2 => e = .returned (.agg (VI .u8 (mtag two Y2))) ∧ TS q W ⟨ga, q, one, X2, X2, u9⟩ ⟨gb, q + 1, two, Y2, Y2, u10⟩ w2 := fun Z hZ => (TS.tag (x := ⟨gb, q + 1, two, Y2, Y2, u10⟩) hZ.swap HK.out.2 HX2.out.2.2).mono (fun e w2 hh => ⟨hh.1, hh.2.swap⟩)
                exact this
              have HRB : Hid (∀ Z, TS q W ⟨ga, q, one, X2, X2, u9⟩ ⟨gb, q + 1, two, Y2, Y2, u10⟩ Z → Calls Try.prog 14 #[.agg (VI .u8 two), u10] Z fun e w2 => e = .returned (.agg (VI .u8 (mtag two Y2))) ∧ TS q W ⟨ga, q, one, X2, X2, u9⟩ ⟨gb, q + 1, two, Y2, Y2, u10⟩ w2) := by
                have : ∀ Z, TS q W ⟨ga, q, one, X2, X2, u9⟩ ⟨gb, q + 1, two, Y2, Y2, u10⟩ Z → Calls Try.prog 14 #[.agg (VI .u8 two), u10] Z fun e w2 => e = .returned (.agg (VI .u8 (mtag two Y2))) ∧ TS q W ⟨ga, q, one, X2, X2, u9⟩ ⟨gb, q + 1, two, Y2, Y2, u10⟩ w2 := fun Z hZ => (TS.rtag (x := ⟨gb, q + 1, two, Y2, Y2, u10⟩) hZ.swap HK.out.2 HX2.out.2.2 (by have := HX2.out.1; show Y2.length ≤ 1000000; omega)).mono (fun e w2 hh => ⟨hh.1, hh.2.swap⟩)
                exact this
              have HRK : Hid (∀ Z, TS q W ⟨ga, q, one, X2, X2, u9⟩ ⟨gb, q + 1, two, Y2, Y2, u10⟩ Z → Z.heap[q]? = some (.cells (VI .u8 one) 23) ∧ Z.heap[q + 1]? = some (.cells (VI .u8 two) 23)) := by
                have : ∀ Z, TS q W ⟨ga, q, one, X2, X2, u9⟩ ⟨gb, q + 1, two, Y2, Y2, u10⟩ Z → Z.heap[q]? = some (.cells (VI .u8 one) 23) ∧ Z.heap[q + 1]? = some (.cells (VI .u8 two) 23) := fun Z hZ => ⟨TS.key hZ, TS.key hZ.swap⟩
                exact this
              go_upto_region 24 with fail
              cases ask
              · refine wp_region_quiet_in (C := fun Y => TS q W ⟨ga, q, one, X2, X2, u9⟩ ⟨gb, q + 1, two, Y2, Y2, u10⟩ Y) (by kernel_rfl) (by kernel_rfl) (TS.below HT3.out (below_drew _)) ?_
                refine wpQuiet_step (fun K hK => ?_)
                go_simp
                first | refine hK _ ?_ | refine ⟨_, fun _ _ => rfl, hK _ ?_⟩
                clear hK K
                try simp only [Act.put, List.getElem_toArray, List.getElem_cons_succ, List.getElem_cons_zero, List.getElem?_toArray, List.getElem?_cons_succ, List.getElem?_cons_zero, List.setIfInBounds_toArray, List.set_cons_zero, List.set_cons_succ]
                refine wpQuiet_step (fun K hK => ?_)
                go_simp
                first | refine hK _ ?_ | refine ⟨_, fun _ _ => rfl, hK _ ?_⟩
                clear hK K
                try simp only [Act.put, List.getElem_toArray, List.getElem_cons_succ, List.getElem_cons_zero, List.getElem?_toArray, List.getElem?_cons_succ, List.getElem?_cons_zero, List.setIfInBounds_toArray, List.set_cons_zero, List.set_cons_succ]
                refine wpQuiet_step (fun K hK => ?_)
                go_simp
                first | refine hK _ ?_ | refine ⟨_, fun _ _ => rfl, hK _ ?_⟩
                clear hK K
                try simp only [Act.put, List.getElem_toArray, List.getElem_cons_succ, List.getElem_cons_zero, List.getElem?_toArray, List.getElem?_cons_succ, List.getElem?_cons_zero, List.setIfInBounds_toArray, List.set_cons_zero, List.set_cons_succ]
                refine wpQuiet_step (fun K hK => ?_)
                go_simp
                first | refine hK _ ?_ | refine ⟨_, fun _ _ => rfl, hK _ ?_⟩
                clear hK K
                try simp only [Act.put, List.getElem_toArray, List.getElem_cons_succ, List.getElem_cons_zero, List.getElem?_toArray, List.getElem?_cons_succ, List.getElem?_cons_zero, List.setIfInBounds_toArray, List.set_cons_zero, List.set_cons_succ]
                refine wpQuiet_step (fun K hK => ?_)
                refine if_pos_mpr (by kernel_rfl) ⟨.bool false, fun Y hY => ?_, hK _ ?_⟩
                · have cY := (HCC.out Y hY.old).1
                  go_simp
                clear hK K
                try simp only [Act.put, List.getElem_toArray, List.getElem_cons_succ, List.getElem_cons_zero, List.getElem?_toArray, List.getElem?_cons_succ, List.getElem?_cons_zero, List.setIfInBounds_toArray, List.set_cons_zero, List.set_cons_succ]
                refine wpQuiet_step (fun K hK => ?_)
                go_simp
                refine ⟨.bool false, fun _ _ => rfl, hidAct (fun a0 h0 => ?_)⟩
                refine hK _ (wpQuiet_step (fun K hK => ?_))
                refine if_false_mpr (by rw [h0]; kernel_rfl) (hidAct (fun a1 h1 => hK _ (wpQuiet_step (fun K hK => ?_))))
                refine if_false_mpr (by rw [h1, h0]; kernel_rfl) (hidAct (fun a2 h2 => hK _ (wpQuiet_step (fun K hK => ?_))))
                refine if_false_mpr (by rw [h2, h1, h0]; kernel_rfl) (hidAct (fun a3 h3 => hK _ (wpQuiet_step (fun K hK => ?_))))
                refine if_false_mpr (by rw [h3, h2, h1, h0]; kernel_rfl) (hidAct (fun a4 h4 => hK _ (wpQuiet_step (fun K hK => ?_))))
                refine if_false_mpr (by rw [h4, h3, h2, h1, h0]; kernel_rfl) (hidAct (fun a5 h5 => hK _ (wpQuiet_step (fun K hK => ?_))))
                refine if_false_mpr (by rw [h5, h4, h3, h2, h1, h0]; kernel_rfl) (hidAct (fun a6 h6 => hK _ (wpQuiet_step (fun K hK => ?_))))
                refine if_false_mpr (by rw [h6, h5, h4, h3, h2, h1, h0]; kernel_rfl) (hidAct (fun a7 h7 => hK _ (wpQuiet_step (fun K hK => ?_))))
                refine if_false_mpr (by rw [h7, h6, h5, h4, h3, h2, h1, h0]; kernel_rfl) (hidAct (fun a8 h8 => hK _ (wpQuiet_step (fun K hK => ?_))))
                refine if_false_mpr (by rw [h8, h7, h6, h5, h4, h3, h2, h1, h0]; kernel_rfl) (hidAct (fun a9 h9 => hK _ (wpQuiet_step (fun K hK => ?_))))
                refine if_false_mpr (by rw [h9, h8, h7, h6, h5, h4, h3, h2, h1, h0]; kernel_rfl) (hidAct (fun a10 h10 => hK _ (wpQuiet_step (fun K hK => ?_))))
                refine if_false_mpr (by rw [h10, h9, h8, h7, h6, h5, h4, h3, h2, h1, h0]; kernel_rfl) (hidAct (fun a11 h11 => hK _ (wpQuiet_step (fun K hK => ?_))))
                refine if_false_mpr (by rw [h11, h10, h9, h8, h7, h6, h5, h4, h3, h2, h1, h0]; kernel_rfl) (hidAct (fun a12 h12 => hK _ (wpQuiet_step (fun K hK => ?_))))
                refine if_false_mpr (by rw [h12, h11, h10, h9, h8, h7, h6, h5, h4, h3, h2, h1, h0]; kernel_rfl) (hidAct (fun a13 h13 => hK _ (wpQuiet_step (fun K hK => ?_))))
                refine if_false_mpr (by rw [h13, h12, h11, h10, h9, h8, h7, h6, h5, h4, h3, h2, h1, h0]; kernel_rfl) (hidAct (fun a14 h14 => hK _ (wpQuiet_step (fun K hK => ?_))))
                subst h14
                subst h13
                subst h12
                subst h11
                subst h10
                subst h9
                subst h8
                subst h7
                subst h6
                subst h5
                subst h4
                subst h3
                subst h2
                subst h1
                subst h0
                go_simp
                first | refine hK _ ?_ | refine ⟨_, fun _ _ => rfl, hK _ ?_⟩
                try simp only [Act.put, List.getElem_toArray, List.getElem_cons_succ, List.getElem_cons_zero, List.getElem?_toArray, List.getElem?_cons_succ, List.getElem?_cons_zero, List.setIfInBounds_toArray, List.set_cons_zero, List.set_cons_succ]
                intro w9 h9
                have H9 : Hid (TS q W ⟨ga, q, one, X2, X2, u9⟩ ⟨gb, q + 1, two, Y2, Y2, u10⟩ w9) := h9
                clear h9 HT3
                go_wp2_with fail
                go_roundw
                case rel => exact ⟨i + 1, X2, Y2, HIN.out.1, by go_num, HX2.out, H9.out⟩
                case measure => have := HIN.out; simp only [intOf]; omega
              · refine wp_region_quiet_in (C := fun Y => TS q W ⟨ga, q, one, X2, X2, u9⟩ ⟨gb, q + 1, two, Y2, Y2, u10⟩ Y) (by kernel_rfl) (by kernel_rfl) (TS.below HT3.out (below_drew _)) ?_
                refine wpQuiet_step (fun K hK => ?_)
                go_simp
                first | refine hK _ ?_ | refine ⟨_, fun _ _ => rfl, hK _ ?_⟩
                clear hK K
                try simp only [Act.put, List.getElem_toArray, List.getElem_cons_succ, List.getElem_cons_zero, List.getElem?_toArray, List.getElem?_cons_succ, List.getElem?_cons_zero, List.setIfInBounds_toArray, List.set_cons_zero, List.set_cons_succ]
                refine wpQuiet_step (fun K hK => ?_)
                go_simp
                first | refine hK _ ?_ | refine ⟨_, fun _ _ => rfl, hK _ ?_⟩
                clear hK K
                try simp only [Act.put, List.getElem_toArray, List.getElem_cons_succ, List.getElem_cons_zero, List.getElem?_toArray, List.getElem?_cons_succ, List.getElem?_cons_zero, List.setIfInBounds_toArray, List.set_cons_zero, List.set_cons_succ]
                refine wpQuiet_step (fun K hK => ?_)
                go_simp
                first | refine hK _ ?_ | refine ⟨_, fun _ _ => rfl, hK _ ?_⟩
                clear hK K
                try simp only [Act.put, List.getElem_toArray, List.getElem_cons_succ, List.getElem_cons_zero, List.getElem?_toArray, List.getElem?_cons_succ, List.getElem?_cons_zero, List.setIfInBounds_toArray, List.set_cons_zero, List.set_cons_succ]
                refine wpQuiet_step (fun K hK => ?_)
                go_simp
                first | refine hK _ ?_ | refine ⟨_, fun _ _ => rfl, hK _ ?_⟩
                clear hK K
                try simp only [Act.put, List.getElem_toArray, List.getElem_cons_succ, List.getElem_cons_zero, List.getElem?_toArray, List.getElem?_cons_succ, List.getElem?_cons_zero, List.setIfInBounds_toArray, List.set_cons_zero, List.set_cons_succ]
                refine wpQuiet_step (fun K hK => ?_)
                refine if_pos_mpr (by kernel_rfl) ⟨.bool true, fun Y hY => ?_, hK _ ?_⟩
                · have cY := (HCC.out Y hY.old).1
                  go_simp
                clear hK K
                try simp only [Act.put, List.getElem_toArray, List.getElem_cons_succ, List.getElem_cons_zero, List.getElem?_toArray, List.getElem?_cons_succ, List.getElem?_cons_zero, List.setIfInBounds_toArray, List.set_cons_zero, List.set_cons_succ]
                refine wpQuiet_step (fun K hK => ?_)
                go_simp
                first | refine hK _ ?_ | refine ⟨_, fun _ _ => rfl, hK _ ?_⟩
                clear hK K
                try simp only [Act.put, List.getElem_toArray, List.getElem_cons_succ, List.getElem_cons_zero, List.getElem?_toArray, List.getElem?_cons_succ, List.getElem?_cons_zero, List.setIfInBounds_toArray, List.set_cons_zero, List.set_cons_succ]
                refine wpQuiet_step (fun K hK => ?_)
                go_simp
                first | refine hK _ ?_ | refine ⟨_, fun _ _ => rfl, hK _ ?_⟩
                clear hK K
                try simp only [Act.put, List.getElem_toArray, List.getElem_cons_succ, List.getElem_cons_zero, List.getElem?_toArray, List.getElem?_cons_succ, List.getElem?_cons_zero, List.setIfInBounds_toArray, List.set_cons_zero, List.set_cons_succ]
                refine wpQuiet_step (fun K hK => ?_)
                refine if_pos_mpr (by kernel_rfl) ⟨.agg (VI .u8 (mtag one X2)), fun Y hY => ?_, hK _ ?_⟩
                · go_simp
                  exact HTA.out Y hY
                clear hK K
                try simp only [Act.put, List.getElem_toArray, List.getElem_cons_succ, List.getElem_cons_zero, List.getElem?_toArray, List.getElem?_cons_succ, List.getElem?_cons_zero, List.setIfInBounds_toArray, List.set_cons_zero, List.set_cons_succ]
                refine wpQuiet_step (fun K hK => ?_)
                refine if_pos_mpr (by kernel_rfl) ⟨.agg (VI .u8 one), fun Y hY => quietAt_load_row 23 (.tmp 3) rfl q rfl 23 (VI .u8 one) (0, 0) _ ((HRK.out Y hY).1) Try.underlying23 rfl HI1.out, hK _ ?_⟩
                clear hK K
                try simp only [Act.put, List.getElem_toArray, List.getElem_cons_succ, List.getElem_cons_zero, List.getElem?_toArray, List.getElem?_cons_succ, List.getElem?_cons_zero, List.setIfInBounds_toArray, List.set_cons_zero, List.set_cons_succ]
                refine wpQuiet_step (fun K hK => ?_)
                go_simp
                first | refine hK _ ?_ | refine ⟨_, fun _ _ => rfl, hK _ ?_⟩
                clear hK K
                try simp only [Act.put, List.getElem_toArray, List.getElem_cons_succ, List.getElem_cons_zero, List.getElem?_toArray, List.getElem?_cons_succ, List.getElem?_cons_zero, List.setIfInBounds_toArray, List.set_cons_zero, List.set_cons_succ]
                refine wpQuiet_step (fun K hK => ?_)
                refine if_pos_mpr (by kernel_rfl) ⟨.agg (VI .u8 (mtag one X2)), fun Y hY => ?_, hK _ ?_⟩
                · go_simp
                  exact HRA.out Y hY
                clear hK K
                try simp only [Act.put, List.getElem_toArray, List.getElem_cons_succ, List.getElem_cons_zero, List.getElem?_toArray, List.getElem?_cons_succ, List.getElem?_cons_zero, List.setIfInBounds_toArray, List.set_cons_zero, List.set_cons_succ]
                refine wpQuiet_step (fun K hK => ?_)
                go_simp
                first | refine hK _ ?_ | refine ⟨_, fun _ _ => rfl, hK _ ?_⟩
                clear hK K
                try simp only [Act.put, List.getElem_toArray, List.getElem_cons_succ, List.getElem_cons_zero, List.getElem?_toArray, List.getElem?_cons_succ, List.getElem?_cons_zero, List.setIfInBounds_toArray, List.set_cons_zero, List.set_cons_succ]
                refine wpQuiet_step (fun K hK => ?_)
                go_simp
                first | refine hK _ ?_ | refine ⟨_, fun _ _ => rfl, hK _ ?_⟩
                clear hK K
                try simp only [Act.put, List.getElem_toArray, List.getElem_cons_succ, List.getElem_cons_zero, List.getElem?_toArray, List.getElem?_cons_succ, List.getElem?_cons_zero, List.setIfInBounds_toArray, List.set_cons_zero, List.set_cons_succ]
                refine wpQuiet_step (fun K hK => ?_)
                go_simp
                first | refine hK _ ?_ | refine ⟨_, fun _ _ => rfl, hK _ ?_⟩
                clear hK K
                try simp only [Act.put, List.getElem_toArray, List.getElem_cons_succ, List.getElem_cons_zero, List.getElem?_toArray, List.getElem?_cons_succ, List.getElem?_cons_zero, List.setIfInBounds_toArray, List.set_cons_zero, List.set_cons_succ]
                refine wpQuiet_step (fun K hK => ?_)
                refine if_pos_mpr (by kernel_rfl) ⟨.agg (VI .u8 (mtag two Y2)), fun Y hY => ?_, hK _ ?_⟩
                · go_simp
                  exact HTB.out Y hY
                clear hK K
                try simp only [Act.put, List.getElem_toArray, List.getElem_cons_succ, List.getElem_cons_zero, List.getElem?_toArray, List.getElem?_cons_succ, List.getElem?_cons_zero, List.setIfInBounds_toArray, List.set_cons_zero, List.set_cons_succ]
                refine wpQuiet_step (fun K hK => ?_)
                refine if_pos_mpr (by kernel_rfl) ⟨.agg (VI .u8 two), fun Y hY => quietAt_load_row 23 (.tmp 4) rfl (q + 1) rfl 23 (VI .u8 two) (0, 0) _ ((HRK.out Y hY).2) Try.underlying23 rfl HI2.out, hK _ ?_⟩
                clear hK K
                try simp only [Act.put, List.getElem_toArray, List.getElem_cons_succ, List.getElem_cons_zero, List.getElem?_toArray, List.getElem?_cons_succ, List.getElem?_cons_zero, List.setIfInBounds_toArray, List.set_cons_zero, List.set_cons_succ]
                refine wpQuiet_step (fun K hK => ?_)
                go_simp
                first | refine hK _ ?_ | refine ⟨_, fun _ _ => rfl, hK _ ?_⟩
                clear hK K
                try simp only [Act.put, List.getElem_toArray, List.getElem_cons_succ, List.getElem_cons_zero, List.getElem?_toArray, List.getElem?_cons_succ, List.getElem?_cons_zero, List.setIfInBounds_toArray, List.set_cons_zero, List.set_cons_succ]
                refine wpQuiet_step (fun K hK => ?_)
                refine if_pos_mpr (by kernel_rfl) ⟨.agg (VI .u8 (mtag two Y2)), fun Y hY => ?_, hK _ ?_⟩
                · go_simp
                  exact HRB.out Y hY
                clear hK K
                try simp only [Act.put, List.getElem_toArray, List.getElem_cons_succ, List.getElem_cons_zero, List.getElem?_toArray, List.getElem?_cons_succ, List.getElem?_cons_zero, List.setIfInBounds_toArray, List.set_cons_zero, List.set_cons_succ]
                refine wpQuiet_step (fun K hK => ?_)
                go_simp
                first | refine hK _ ?_ | refine ⟨_, fun _ _ => rfl, hK _ ?_⟩
                clear hK K
                try simp only [Act.put, List.getElem_toArray, List.getElem_cons_succ, List.getElem_cons_zero, List.getElem?_toArray, List.getElem?_cons_succ, List.getElem?_cons_zero, List.setIfInBounds_toArray, List.set_cons_zero, List.set_cons_succ]
                refine wpQuiet_step (fun K hK => ?_)
                go_simp
                first | refine hK _ ?_ | refine ⟨_, fun _ _ => rfl, hK _ ?_⟩
                clear hK K
                try simp only [Act.put, List.getElem_toArray, List.getElem_cons_succ, List.getElem_cons_zero, List.getElem?_toArray, List.getElem?_cons_succ, List.getElem?_cons_zero, List.setIfInBounds_toArray, List.set_cons_zero, List.set_cons_succ]
                refine wpQuiet_step (fun K hK => ?_)
                go_simp
                first | refine hK _ ?_ | refine ⟨_, fun _ _ => rfl, hK _ ?_⟩
                clear hK K
                try simp only [Act.put, List.getElem_toArray, List.getElem_cons_succ, List.getElem_cons_zero, List.getElem?_toArray, List.getElem?_cons_succ, List.getElem?_cons_zero, List.setIfInBounds_toArray, List.set_cons_zero, List.set_cons_succ]
                intro w9 h9
                have H9 : Hid (TS q W ⟨ga, q, one, X2, X2, u9⟩ ⟨gb, q + 1, two, Y2, Y2, u10⟩ w9) := h9
                clear h9 HT3
                go_wp2_with fail
                go_roundw
                case rel => exact ⟨i + 1, X2, Y2, HIN.out.1, by go_num, HX2.out, H9.out⟩
                case measure => have := HIN.out; simp only [intOf]; omega
      · have b1 : ¬ (i : Int) < (n : Int) := by omega
        have EQA : ∀ w, (Op.equalIn 10000 36 (.agg (VI .u8 (mtag one X))) (.agg (VI .u8 (mtag one X)))).run Try.prog w = .ok true w := fun w => by
          rw [eqT (mtag_len _ _) (mtag_len _ _), beq_self_eq_true]
        have EQB : ∀ w, (Op.equalIn 10000 36 (.agg (VI .u8 (mtag two Y))) (.agg (VI .u8 (mtag two Y)))).run Try.prog w = .ok true w := fun w => by
          rw [eqT (mtag_len _ _) (mtag_len _ _), beq_self_eq_true]
        have HX2 : Hid (X.length + Y.length ≤ 131072 ∧ Byt X ∧ Byt Y) := HXY.out
        have HTA : Hid (∀ Z, TS q W ⟨ga, q, one, X, X, (.slice ax tx cx)⟩ ⟨gb, q + 1, two, Y, Y, (.slice ay ty cy)⟩ Z → Calls Try.prog 13 #[.pointer (some ⟨ga, 0, none⟩)] Z fun e w2 => e = .returned (.agg (VI .u8 (mtag one X))) ∧ TS q W ⟨ga, q, one, X, X, (.slice ax tx cx)⟩ ⟨gb, q + 1, two, Y, Y, (.slice ay ty cy)⟩ w2) := by
          have : ∀ Z, TS q W ⟨ga, q, one, X, X, (.slice ax tx cx)⟩ ⟨gb, q + 1, two, Y, Y, (.slice ay ty cy)⟩ Z → Calls Try.prog 13 #[.pointer (some ⟨ga, 0, none⟩)] Z fun e w2 => e = .returned (.agg (VI .u8 (mtag one X))) ∧ TS q W ⟨ga, q, one, X, X, (.slice ax tx cx)⟩ ⟨gb, q + 1, two, Y, Y, (.slice ay ty cy)⟩ w2 := fun Z hZ => TS.tag (x := ⟨ga, q, one, X, X, (.slice ax tx cx)⟩) hZ HK.out.1 HX2.out.2.1
          exact this
        have HRA : Hid (∀ Z, TS q W ⟨ga, q, one, X, X, (.slice ax tx cx)⟩ ⟨gb, q + 1, two, Y, Y, (.slice ay ty cy)⟩ Z → Calls Try.prog 14 #[.agg (VI .u8 one), (.slice ax tx cx)] Z fun e w2 => e = .returned (.agg (VI .u8 (mtag one X))) ∧ TS q W ⟨ga, q, one, X, X, (.slice ax tx cx)⟩ ⟨gb, q + 1, two, Y, Y, (.slice ay ty cy)⟩ w2) := by
          have : ∀ Z, TS q W ⟨ga, q, one, X, X, (.slice ax tx cx)⟩ ⟨gb, q + 1, two, Y, Y, (.slice ay ty cy)⟩ Z → Calls Try.prog 14 #[.agg (VI .u8 one), (.slice ax tx cx)] Z fun e w2 => e = .returned (.agg (VI .u8 (mtag one X))) ∧ TS q W ⟨ga, q, one, X, X, (.slice ax tx cx)⟩ ⟨gb, q + 1, two, Y, Y, (.slice ay ty cy)⟩ w2 := fun Z hZ => TS.rtag (x := ⟨ga, q, one, X, X, (.slice ax tx cx)⟩) hZ HK.out.1 HX2.out.2.1 (by have := HX2.out.1; show X.length ≤ 1000000; omega)
          exact this
        have HTB : Hid (∀ Z, TS q W ⟨ga, q, one, X, X, (.slice ax tx cx)⟩ ⟨gb, q + 1, two, Y, Y, (.slice ay ty cy)⟩ Z → Calls Try.prog 13 #[.pointer (some ⟨gb, 0, none⟩)] Z fun e w2 => e = .returned (.agg (VI .u8 (mtag two Y))) ∧ TS q W ⟨ga, q, one, X, X, (.slice ax tx cx)⟩ ⟨gb, q + 1, two, Y, Y, (.slice ay ty cy)⟩ w2) := by
          have : ∀ Z, TS q W ⟨ga, q, one, X, X, (.slice ax tx cx)⟩ ⟨gb, q + 1, two, Y, Y, (.slice ay ty cy)⟩ Z → Calls Try.prog 13 #[.pointer (some ⟨gb, 0, none⟩)] Z fun e w2 => e = .returned (.agg (VI .u8 (mtag two Y))) ∧ TS q W ⟨ga, q, one, X, X, (.slice ax tx cx)⟩ ⟨gb, q + 1, two, Y, Y, (.slice ay ty cy)⟩ w2 := fun Z hZ => (TS.tag (x := ⟨gb, q + 1, two, Y, Y, (.slice ay ty cy)⟩) hZ.swap HK.out.2 HX2.out.2.2).mono (fun e w2 hh => ⟨hh.1, hh.2.swap⟩)
          exact this
        have HRB : Hid (∀ Z, TS q W ⟨ga, q, one, X, X, (.slice ax tx cx)⟩ ⟨gb, q + 1, two, Y, Y, (.slice ay ty cy)⟩ Z → Calls Try.prog 14 #[.agg (VI .u8 two), (.slice ay ty cy)] Z fun e w2 => e = .returned (.agg (VI .u8 (mtag two Y))) ∧ TS q W ⟨ga, q, one, X, X, (.slice ax tx cx)⟩ ⟨gb, q + 1, two, Y, Y, (.slice ay ty cy)⟩ w2) := by
          have : ∀ Z, TS q W ⟨ga, q, one, X, X, (.slice ax tx cx)⟩ ⟨gb, q + 1, two, Y, Y, (.slice ay ty cy)⟩ Z → Calls Try.prog 14 #[.agg (VI .u8 two), (.slice ay ty cy)] Z fun e w2 => e = .returned (.agg (VI .u8 (mtag two Y))) ∧ TS q W ⟨ga, q, one, X, X, (.slice ax tx cx)⟩ ⟨gb, q + 1, two, Y, Y, (.slice ay ty cy)⟩ w2 := fun Z hZ => (TS.rtag (x := ⟨gb, q + 1, two, Y, Y, (.slice ay ty cy)⟩) hZ.swap HK.out.2 HX2.out.2.2 (by have := HX2.out.1; show Y.length ≤ 1000000; omega)).mono (fun e w2 hh => ⟨hh.1, hh.2.swap⟩)
          exact this
        have HRK : Hid (∀ Z, TS q W ⟨ga, q, one, X, X, (.slice ax tx cx)⟩ ⟨gb, q + 1, two, Y, Y, (.slice ay ty cy)⟩ Z → Z.heap[q]? = some (.cells (VI .u8 one) 23) ∧ Z.heap[q + 1]? = some (.cells (VI .u8 two) 23)) := by
          have : ∀ Z, TS q W ⟨ga, q, one, X, X, (.slice ax tx cx)⟩ ⟨gb, q + 1, two, Y, Y, (.slice ay ty cy)⟩ Z → Z.heap[q]? = some (.cells (VI .u8 one) 23) ∧ Z.heap[q + 1]? = some (.cells (VI .u8 two) 23) := fun Z hZ => ⟨TS.key hZ, TS.key hZ.swap⟩
          exact this
        go_upto_region 26 with fail
        refine wp_region_quiet_in (C := fun Z => TS q W ⟨ga, q, one, X, X, .slice ax tx cx⟩ ⟨gb, q + 1, two, Y, Y, .slice ay ty cy⟩ Z) (by kernel_rfl) (by kernel_rfl) (TS.below HTS.out (below_drew _)) ?_
        refine wpQuiet_step (fun K hK => ?_)
        go_simp
        first | refine hK _ ?_ | refine ⟨_, fun _ _ => rfl, hK _ ?_⟩
        clear hK K
        try simp only [Act.put, List.getElem_toArray, List.getElem_cons_succ, List.getElem_cons_zero, List.getElem?_toArray, List.getElem?_cons_succ, List.getElem?_cons_zero, List.setIfInBounds_toArray, List.set_cons_zero, List.set_cons_succ]
        refine wpQuiet_step (fun K hK => ?_)
        refine if_pos_mpr (by kernel_rfl) ⟨.agg (VI .u8 (mtag one X)), fun Y hY => ?_, hK _ ?_⟩
        · go_simp
          exact HTA.out Y hY
        clear hK K
        try simp only [Act.put, List.getElem_toArray, List.getElem_cons_succ, List.getElem_cons_zero, List.getElem?_toArray, List.getElem?_cons_succ, List.getElem?_cons_zero, List.setIfInBounds_toArray, List.set_cons_zero, List.set_cons_succ]
        refine wpQuiet_step (fun K hK => ?_)
        refine if_pos_mpr (by kernel_rfl) ⟨.agg (VI .u8 one), fun Y hY => quietAt_load_row 23 (.tmp 3) rfl q rfl 23 (VI .u8 one) (0, 0) _ ((HRK.out Y hY).1) Try.underlying23 rfl HI1.out, hK _ ?_⟩
        clear hK K
        try simp only [Act.put, List.getElem_toArray, List.getElem_cons_succ, List.getElem_cons_zero, List.getElem?_toArray, List.getElem?_cons_succ, List.getElem?_cons_zero, List.setIfInBounds_toArray, List.set_cons_zero, List.set_cons_succ]
        refine wpQuiet_step (fun K hK => ?_)
        go_simp
        first | refine hK _ ?_ | refine ⟨_, fun _ _ => rfl, hK _ ?_⟩
        clear hK K
        try simp only [Act.put, List.getElem_toArray, List.getElem_cons_succ, List.getElem_cons_zero, List.getElem?_toArray, List.getElem?_cons_succ, List.getElem?_cons_zero, List.setIfInBounds_toArray, List.set_cons_zero, List.set_cons_succ]
        refine wpQuiet_step (fun K hK => ?_)
        refine if_pos_mpr (by kernel_rfl) ⟨.agg (VI .u8 (mtag one X)), fun Y hY => ?_, hK _ ?_⟩
        · go_simp
          exact HRA.out Y hY
        clear hK K
        try simp only [Act.put, List.getElem_toArray, List.getElem_cons_succ, List.getElem_cons_zero, List.getElem?_toArray, List.getElem?_cons_succ, List.getElem?_cons_zero, List.setIfInBounds_toArray, List.set_cons_zero, List.set_cons_succ]
        refine wpQuiet_step (fun K hK => ?_)
        go_simp
        first | refine hK _ ?_ | refine ⟨_, fun _ _ => rfl, hK _ ?_⟩
        clear hK K
        try simp only [Act.put, List.getElem_toArray, List.getElem_cons_succ, List.getElem_cons_zero, List.getElem?_toArray, List.getElem?_cons_succ, List.getElem?_cons_zero, List.setIfInBounds_toArray, List.set_cons_zero, List.set_cons_succ]
        refine wpQuiet_step (fun K hK => ?_)
        go_simp
        first | refine hK _ ?_ | refine ⟨_, fun _ _ => rfl, hK _ ?_⟩
        clear hK K
        try simp only [Act.put, List.getElem_toArray, List.getElem_cons_succ, List.getElem_cons_zero, List.getElem?_toArray, List.getElem?_cons_succ, List.getElem?_cons_zero, List.setIfInBounds_toArray, List.set_cons_zero, List.set_cons_succ]
        refine wpQuiet_step (fun K hK => ?_)
        go_simp
        first | refine hK _ ?_ | refine ⟨_, fun _ _ => rfl, hK _ ?_⟩
        clear hK K
        try simp only [Act.put, List.getElem_toArray, List.getElem_cons_succ, List.getElem_cons_zero, List.getElem?_toArray, List.getElem?_cons_succ, List.getElem?_cons_zero, List.setIfInBounds_toArray, List.set_cons_zero, List.set_cons_succ]
        refine wpQuiet_step (fun K hK => ?_)
        refine if_pos_mpr (by kernel_rfl) ⟨.agg (VI .u8 (mtag two Y)), fun Y hY => ?_, hK _ ?_⟩
        · go_simp
          exact HTB.out Y hY
        clear hK K
        try simp only [Act.put, List.getElem_toArray, List.getElem_cons_succ, List.getElem_cons_zero, List.getElem?_toArray, List.getElem?_cons_succ, List.getElem?_cons_zero, List.setIfInBounds_toArray, List.set_cons_zero, List.set_cons_succ]
        refine wpQuiet_step (fun K hK => ?_)
        refine if_pos_mpr (by kernel_rfl) ⟨.agg (VI .u8 two), fun Y hY => quietAt_load_row 23 (.tmp 4) rfl (q + 1) rfl 23 (VI .u8 two) (0, 0) _ ((HRK.out Y hY).2) Try.underlying23 rfl HI2.out, hK _ ?_⟩
        clear hK K
        try simp only [Act.put, List.getElem_toArray, List.getElem_cons_succ, List.getElem_cons_zero, List.getElem?_toArray, List.getElem?_cons_succ, List.getElem?_cons_zero, List.setIfInBounds_toArray, List.set_cons_zero, List.set_cons_succ]
        refine wpQuiet_step (fun K hK => ?_)
        go_simp
        first | refine hK _ ?_ | refine ⟨_, fun _ _ => rfl, hK _ ?_⟩
        clear hK K
        try simp only [Act.put, List.getElem_toArray, List.getElem_cons_succ, List.getElem_cons_zero, List.getElem?_toArray, List.getElem?_cons_succ, List.getElem?_cons_zero, List.setIfInBounds_toArray, List.set_cons_zero, List.set_cons_succ]
        refine wpQuiet_step (fun K hK => ?_)
        refine if_pos_mpr (by kernel_rfl) ⟨.agg (VI .u8 (mtag two Y)), fun Y hY => ?_, hK _ ?_⟩
        · go_simp
          exact HRB.out Y hY
        clear hK K
        try simp only [Act.put, List.getElem_toArray, List.getElem_cons_succ, List.getElem_cons_zero, List.getElem?_toArray, List.getElem?_cons_succ, List.getElem?_cons_zero, List.setIfInBounds_toArray, List.set_cons_zero, List.set_cons_succ]
        refine wpQuiet_step (fun K hK => ?_)
        go_simp
        first | refine hK _ ?_ | refine ⟨_, fun _ _ => rfl, hK _ ?_⟩
        clear hK K
        try simp only [Act.put, List.getElem_toArray, List.getElem_cons_succ, List.getElem_cons_zero, List.getElem?_toArray, List.getElem?_cons_succ, List.getElem?_cons_zero, List.setIfInBounds_toArray, List.set_cons_zero, List.set_cons_succ]
        refine wpQuiet_step (fun K hK => ?_)
        go_simp
        first | refine hK _ ?_ | refine ⟨_, fun _ _ => rfl, hK _ ?_⟩
        clear hK K
        try simp only [Act.put, List.getElem_toArray, List.getElem_cons_succ, List.getElem_cons_zero, List.getElem?_toArray, List.getElem?_cons_succ, List.getElem?_cons_zero, List.setIfInBounds_toArray, List.set_cons_zero, List.set_cons_succ]
        refine wpQuiet_step (fun K hK => ?_)
        go_simp
        first | refine hK _ ?_ | refine ⟨_, fun _ _ => rfl, hK _ ?_⟩
        clear hK K
        try simp only [Act.put, List.getElem_toArray, List.getElem_cons_succ, List.getElem_cons_zero, List.getElem?_toArray, List.getElem?_cons_succ, List.getElem?_cons_zero, List.setIfInBounds_toArray, List.set_cons_zero, List.set_cons_succ]
        refine wpQuiet_step (fun K hK => ?_)
        refine if_pos_mpr (by kernel_rfl) ⟨.bool true, fun Y hY => ?_, hK _ ?_⟩
        · go_simp
          exact (known_any Y).mono (fun e w' hh => ⟨hh.1, hY.below hh.2⟩)
        clear hK K
        try simp only [Act.put, List.getElem_toArray, List.getElem_cons_succ, List.getElem_cons_zero, List.getElem?_toArray, List.getElem?_cons_succ, List.getElem?_cons_zero, List.setIfInBounds_toArray, List.set_cons_zero, List.set_cons_succ]
        refine wpQuiet_step (fun K hK => ?_)
        go_simp
        first | refine hK _ ?_ | refine ⟨_, fun _ _ => rfl, hK _ ?_⟩
        clear hK K
        try simp only [Act.put, List.getElem_toArray, List.getElem_cons_succ, List.getElem_cons_zero, List.getElem?_toArray, List.getElem?_cons_succ, List.getElem?_cons_zero, List.setIfInBounds_toArray, List.set_cons_zero, List.set_cons_succ]
        refine wpQuiet_step (fun K hK => ?_)
        go_simp
        first | refine hK _ ?_ | refine ⟨_, fun _ _ => rfl, hK _ ?_⟩
        clear hK K
        try simp only [Act.put, List.getElem_toArray, List.getElem_cons_succ, List.getElem_cons_zero, List.getElem?_toArray, List.getElem?_cons_succ, List.getElem?_cons_zero, List.setIfInBounds_toArray, List.set_cons_zero, List.set_cons_succ]
        intro w9 h9
        have HF : Hid (Below q W w9) := TS.old h9
        clear h9 HTS
        go_wp2
        go_ret
        exact ⟨rfl, HF.out⟩
  · have b0 : (400 : Int) < (n : Int) := by omega
    have b0' : 400 < n := by omega
    clear e1
    go_enter Try.func6, Try.ntmps6
    go_wp2
    go_ret
    exact ⟨rfl, HB0.out⟩
end Go.Proofs.Ytgfamcadgahiiaa

namespace Go.Proofs.Ytgfamcadgahiiaa
set_option linter.unusedSimpArgs false
set_option linter.unusedVariables false
open Go.ChangeShapes Go.WideShapes Go.ChangeAt Go.RowKit Go.Pin Go.Prm Go.Deep

set_option maxRecDepth 100000 in
theorem two_lifted (os : Os) (started : os.Started) (H : Type) (enc : TypeId × Value → H) :
    ReturnsInHanded {} Try.checked os 6 .any (Rows.macTwoSpec.pre6 enc Try.prog Try.f6 Rows.macTwoRow.domain false) (Rows.macTwoSpec.post enc Try.prog Try.f6 false true false false) := by
  refine returnsInHanded_of_change (C := Try.checked) own started (by kernel_rfl) Try.func6
    (ChangeSpec.witness6 (enc := enc) (C := Try.checked) false ⟨#[], #[.agg (Array.replicate 32 (.int .u8 0)), .agg (Array.replicate 32 (.int .u8 0)), .slice none 0 0], []⟩ 8 (by kernel_rfl) (by kernel_rfl) (by kernel_rfl) (by kernel_rfl)) ?_
  intro W base args ds gs before hval0 hW hcnd _
  have hval : ∀ (j : Nat) t v, Try.f6.params[j]? = some t → args[j]? = some v → Value.okWide Try.prog W .any base t v := hval0
  have hW' := hW
  obtain ⟨p, q, hA0, hV, rfl, hfz, hnd⟩ := hW
  have hA : DataW.TrodAll enc Try.prog W 0 (fun _ => true) true Try.f6.params.toList args.toList ds p := hA0
  rw [Try.params6] at hA hval
  have hAll := fun W' (hb : Below W.heap.size W W') => trodAll_below laidOut hb _ _ _ _ (by kernel_rfl) hA
  obtain ⟨v0, vs0, d0, ds0, p0, q0, hargs, rfl, rfl, h0, r0⟩ := trodAll_cons hA
  obtain ⟨v1, vs1, d1, ds1, p1, q1, rfl, rfl, rfl, h1, r1⟩ := trodAll_cons r0
  obtain ⟨v2, vs2, d2, ds2, p2, q2, rfl, rfl, rfl, h2, r2⟩ := trodAll_cons r1
  obtain ⟨rfl, rfl, rfl⟩ := trodAll_nil r2
  obtain rfl : args = #[v0, v1, v2] := by cases args; simp_all
  obtain ⟨rfl, rfl⟩ := trodVars_none hV
  obtain ⟨k0, rfl, n0, w0⟩ := open_row Try.underlying23 Try.underlying5 (by kernel_rfl) (by kernel_rfl) (hval 0 23 v0 rfl rfl) h0
  have s0 := key32_of n0 w0
  obtain ⟨k1, rfl, n1, w1⟩ := open_row Try.underlying23 Try.underlying5 (by kernel_rfl) (by kernel_rfl) (hval 1 23 v1 rfl rfl) h1
  have s1 := key32_of n1 w1
  obtain ⟨a2, len2, cap2, rfl⟩ := okWide_slice Try.underlying24 (hval 2 24 v2 rfl rfl)
  obtain ⟨k2, rfl, s2, b2⟩ := open_script h2
  clear hA0 hval0
  refine (two_walk k0 k1 s0 s1 k2 a2 cap2 W s2 b2).mono fun e W' ⟨he, bel⟩ => ?_
  subst he
  exact ⟨_, rfl, _, _, _, [], _, [], hW', trodAll_mk1 (shut_bool Try.underlying4 _), hAll W' bel, rfl, bel.frame _, fun h => by cases h⟩

theorem two_proved : Rows.MacTwoSaid :=
  OpenClaim.holds_of_wide 6 Try.f6 rfl rfl rfl rfl rfl rfl rfl ⟨rfl, rfl, rfl, rfl, rfl⟩ rfl rfl rfl rfl rfl (by kernel_rfl) Try.func6 (by kernel_rfl)
    (of_decide_eq_true (by kernel_rfl)) (by unfold Func.isWrapper; first | (rw [if_pos (by decide +kernel)]; kernel_rfl) | (rw [if_neg (by decide +kernel)]; exact ⟨rfl, rfl⟩))
    (fun os started H enc _ => two_lifted os started H enc)
end Go.Proofs.Ytgfamcadgahiiaa
