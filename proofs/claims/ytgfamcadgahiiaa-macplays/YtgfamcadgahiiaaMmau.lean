import Derived.Test.YtgfamcadgahiiaaMmak
import Derived.Test.YtgfamcadgahiiaaMmaq
import Derived.Test.YtgfamcadgahiiaaMmad
namespace Go.Proofs.Ytgfamcadgahiiaa
set_option linter.unusedSimpArgs false
set_option linter.unusedVariables false
open Go.ChangeShapes Go.WideShapes Go.ChangeAt Go.RowKit Go.Pin Go.Prm Go.Deep
/-- a script -/
abbrev Stp := Bool × List Int
def Scr (W : World) (a : Option Addr) (l : List Stp) : Prop := ∀ i, i < l.length → ∃ b o u, a = some ⟨b, o, none⟩ ∧ W.cell? ⟨b, o + i * 2, none⟩ = some (.bool (l.getD i (false, [])).1) ∧ W.cell? ⟨b, o + i * 2 + 1, none⟩ = some u ∧ RdB W u (l.getD i (false, [])).2
theorem open_script {H : Type} {enc : TypeId × Value → H} {W : World} {a : Option Addr} {len cap : Nat} {d : DataW H} {p : List MemPlace}
    (h : DataW.Trod enc Try.prog W 0 (fun _ => true) true 24 (.slice a len cap) d p) : ∃ l : List Stp, l.length = len ∧ Scr W a l ∧ (∀ q ∈ l, Byt q.2 ∧ q.2.length ≤ maxLen) := by
  have he : Try.prog.underlying 33 = _ := Try.underlying33
  obtain ⟨fuel, hf⟩ := h
  rcases open_slice Try.underlying24 hf with ⟨hcs, _⟩ | ⟨x, len', cap', m, n, D, Pl, hcs, _, hl, hm, hmm, _, hx⟩
  · simp [Value.cells] at hcs
    obtain ⟨rfl, rfl, rfl⟩ := hcs
    exact ⟨[], rfl, (fun j hj => nomatch hj), (fun D hD => nomatch hD)⟩
  · simp [Value.cells] at hcs
    obtain ⟨rfl, rfl, rfl⟩ := hcs
    have hlm : len ≤ m := by rw [hmm]; split <;> omega
    have ce : Try.prog.cellsOf 33 = 2 := by kernel_rfl
    have cb : Try.prog.cellsOf 4 = 1 := by kernel_rfl
    have cl : Try.prog.cellsOf 30 = 1 := by kernel_rfl
    have each : ∀ i, i < len → ∃ q : Value × Stp, W.cell? (x.add (i * 2)) = some (.bool q.2.1) ∧ W.cell? (x.add (i * 2 + 1)) = some q.1 ∧ RdB W q.1 q.2.2 ∧ Byt q.2.2 ∧ q.2.2.length ≤ maxLen := by
      intro i hi
      obtain ⟨cs', h1, h2⟩ := hx i (by omega)
      rw [ce] at h1
      obtain ⟨_, hlen, hcell⟩ := World.cells?_some h1
      obtain ⟨xs, k, hk, hxy, _, hxl, hf⟩ := DataW.trod_struct he h2
      match xs, hxl with
      | [y0, y1], _ =>
        have g0 := hf 0 _ rfl
        have g1 := hf 1 _ rfl
        simp only [List.getElem_toArray, List.getElem_cons_zero, List.getElem_cons_succ, cb, cl, List.getElem?_cons_zero, List.getElem?_cons_succ] at g0 g1
        obtain ⟨z0, hz0, _⟩ := DataW.trod_bool Try.underlying4 g0
        obtain ⟨v, D, hc, hr, hb, hm⟩ := open_cells g1
        have e0 : cs'[0]? = some (.bool z0) := by
          have := congrArg (fun z => z[0]?) hz0
          simpa using this
        have e1 : cs'[1]? = some v := by
          have := congrArg (fun z => z[0]?) hc
          simpa using this
        refine ⟨(v, z0, D), ?_, ?_, hr, hb, hm⟩
        · have e := hcell 0 (by omega)
          rw [add_add, e0] at e
          exact e
        · have e := hcell 1 (by omega)
          rw [add_add, e1] at e
          exact e
    obtain ⟨q, hq⟩ := choose_lt each
    have hat : ∀ j, j < len → ((List.range len).map (fun i => (q i).2)).getD j (false, []) = (q j).2 := fun j hj => by simp [List.getD, hj]
    refine ⟨(List.range len).map (fun i => (q i).2), by simp, fun j hj => ?_, fun D hD => ?_⟩
    · have hj' : j < len := by simpa using hj
      have h0 := (hq 0 (by omega)).1
      rw [Nat.zero_mul] at h0
      obtain ⟨b, o, rfl⟩ := add_spot h0
      have h1 := (hq j hj').1
      have h2 := (hq j hj').2.1
      rw [add_mid] at h1 h2
      refine ⟨b, o, (q j).1, rfl, ?_, by rw [Nat.add_assoc]; exact h2, ?_⟩
      · rw [hat j hj']; exact h1
      · rw [hat j hj']
        exact (hq j hj').2.2.1
    · simp only [List.mem_map, List.mem_range] at hD
      obtain ⟨i, hi, rfl⟩ := hD
      exact (hq i hi).2.2.2
end Go.Proofs.Ytgfamcadgahiiaa
namespace Go.Proofs.Ytgfamcadgahiiaa
set_option linter.unusedSimpArgs false
set_option linter.unusedVariables false
open Go.ChangeShapes Go.WideShapes Go.ChangeAt Go.RowKit Go.Pin Go.Prm
theorem Lst.slice {T : TypeId} {sz : Nat} {v : Value} {n : Nat} {xs : List Value} {lb : List (Nat × Obj)} (h : Lst T sz v n xs lb) : ∃ a c, v = .slice a n c := by
  rcases h.2 with ⟨h1, h2, _⟩ | ⟨g, cap, cur, h1, _⟩
  · exact ⟨none, 0, by rw [h1, h2]⟩
  · exact ⟨_, _, h1⟩
/-- a list of bytes is read -/
theorem Lst.rdb {v : Value} {A : List Int} {lb : List (Nat × Obj)} (h : Lst 5 1 v A.length (A.map (Value.int .u8)) lb) {W : World} (hat : ∀ p ∈ lb, W.heap[p.1]? = some p.2) : RdB W v A := by
  rcases h.2 with ⟨h1, h2, _⟩ | ⟨g, cap, cur, h1, h2, h3, h4, h5, h6⟩
  · have e : A = [] := List.length_eq_zero_iff.1 h2
    subst e
    exact ⟨none, 0, h1, Nat.le_refl _, .inl rfl⟩
  · refine ⟨_, cap, h1, h3, .inr ⟨g, 0, rfl, fun j u hu => ?_⟩⟩
    have hrow := hat (g, .cells cur 5 (0, 0)) (by rw [h2]; exact mem0)
    have hj : j < A.length := by have := (List.getElem?_eq_some_iff.1 hu).1; rw [List.length_map] at this; exact this
    rw [cell_of_row W _ _ _ _ _ hrow, Nat.zero_add, ← hu, ← h6, List.getElem?_take_of_lt (by omega)]
    simp
/-- a Mac that has taken M beside a list of bytes A -/
def AS (q : Nat) (W : World) (g : Nat) (key M A : List Int) (vl : Value) (w' : World) : Prop :=
  ∃ lb, Lst 5 1 vl A.length (A.map (Value.int .u8)) lb ∧ Ev q W (.pointer none) [] (lb ++ [(g, mst (.pointer none) key M)]) w' ∧ (∀ p ∈ lb, p.1 ≠ g)
section
variable {q : Nat} {W : World} {g : Nat} {key M A : List Int} {vl : Value} {w' : World}
theorem AS.old (h : AS q W g key M A vl w') : Below q W w' := by
  obtain ⟨lb, _, h, _⟩ := h
  exact h.old
theorem AS.slice (h : AS q W g key M A vl w') : ∃ a c, vl = .slice a A.length c := by
  obtain ⟨lb, h, _⟩ := h
  exact h.slice
theorem AS.below (h : AS q W g key M A vl w') {w2 : World} (hb : Below w'.heap.size w' w2) : AS q W g key M A vl w2 := by
  obtain ⟨lb, h1, h2, h3⟩ := h
  exact ⟨lb, h1, h2.below hb, h3⟩
theorem AS.flip (lb : List (Nat × Obj)) (x : Nat × Obj) (h : Ev q W (.pointer none) [] (lb ++ [x]) w') : Ev q W (.pointer none) [] (x :: lb) w' := h.sub (fun p hp => by
  rcases List.mem_cons.1 hp with rfl | hp
  · exact List.mem_append_right _ mem0
  · exact List.mem_append_left _ hp)
theorem AS.unflip {l : List (Int × Int)} (lb : List (Nat × Obj)) (x : Nat × Obj) (h : Ev q W (.pointer none) l (x :: lb) w') : Ev q W (.pointer none) [] (lb ++ [x]) w' := (h.nilOf []).sub (fun p hp => by
  rcases List.mem_append.1 hp with hp | hp
  · exact memr1 hp
  · rw [List.mem_singleton.1 hp]; exact mem0)
theorem AS.write (h : AS q W g key M A vl w') (hk : Key32 key) (hM : Byt M) {u : Value} {D : List Int} (hD : Byt D) (hl : D.length ≤ 600000) (hS : Src q W [] u D) :
    Calls Try.prog 16 #[.pointer (some ⟨g, 0, none⟩), u] w' fun e w2 => e = .returned (.tuple #[]) ∧ AS q W g key (M ++ D) A vl w2 := by
  obtain ⟨lb, h1, h2, h3⟩ := h
  refine (mwrite_any (AS.flip _ _ h2) h3 (fun h => absurd rfl h) hk hM hD (hS.sub (by simp))).mono ?_
  rintro e w2 ⟨rfl, h4⟩
  exact ⟨rfl, lb, h1, AS.unflip _ _ h4, h3⟩
theorem AS.tag (h : AS q W g key M A vl w') (hk : Key32 key) (hM : Byt M) :
    Calls Try.prog 13 #[.pointer (some ⟨g, 0, none⟩)] w' fun e w2 => e = .returned (.agg (VI .u8 (mtag key M))) ∧ AS q W g key M A vl w2 := by
  obtain ⟨lb, h1, h2, h3⟩ := h
  refine (mtag_any (AS.flip _ _ h2) (fun h => absurd rfl h) hk hM).mono ?_
  rintro e w2 ⟨rfl, h4⟩
  exact ⟨rfl, lb, h1, AS.unflip _ _ h4, h3⟩
theorem AS.app (h : AS q W g key M A vl w') {u : Value} {D : List Int} (hS : Src q W [] u D) (hn : A.length + D.length ≤ 1000000) (ty : TypeId) :
    ∃ v' w2, (Builtin.append_ #[30, 30] ty #[vl, u]).run Try.prog w' = .ok v' w2 ∧ AS q W g key M (A ++ D) v' w2 := by
  obtain ⟨lb, h1, h2, h3⟩ := h
  obtain ⟨v', w2, hr, lb', hL, he, hd⟩ := h2.appB h1 (fun p hp r hr => by rw [List.mem_singleton.1 hr]; exact fun e => h3 p hp e.symm) ty (hS.sub (by simp)) hn
  exact ⟨v', w2, hr, lb', by rw [List.length_append]; exact hL, he, fun p hp e => hd p hp _ mem0 e.symm⟩
theorem AS.rtag (h : AS q W g key M A vl w') {k : List Int} (hk : Key32 k) (hA : Byt A) (hn : A.length ≤ 1000000) :
    Calls Try.prog 14 #[.agg (VI .u8 k), vl] w' fun e w2 => e = .returned (.agg (VI .u8 (mtag k A))) ∧ AS q W g key M A vl w2 := by
  obtain ⟨a, c, rfl⟩ := h.slice
  have hr : RdB w' (.slice a A.length c) A := by
    obtain ⟨lb, h1, h2, _⟩ := h
    exact h1.rdb (fun p hp => h2.at' p (List.mem_append_left _ hp))
  exact (rtag_any w' k hk A hA a A.length c hr hn).mono (fun e w2 hh => ⟨hh.1, h.below hh.2⟩)
end
/-! the zero Mac -/
def z32 : List Int := List.replicate 32 0
theorem z32_key : Key32 z32 := ⟨rfl, by decide⟩
theorem rOf_z32 : rOf z32 = z5 := by decide +kernel
theorem sOf_z32 : sOf z32 = z16 := by decide +kernel
theorem zero_mac : mst (.pointer none) z32 [] = macO (.pointer none) z5 z16 z5 z17 0 := by rw [mst_zero, rOf_z32, sOf_z32]
theorem num_accN0 {r : List Int} (hr : Lim r) (h0 : num r = 0) : ∀ (j : Nat) (s D : List Int), Lim s → Byt D → num s = 0 → num (accN r j s D) = 0
  | 0, _, _, _, _, h => h
  | j + 1, s, D, hs, hD, h => by
    have hb : Byt (blkOf (D.take 16)) := blkOf_byt (fun x hx => hD x (List.mem_of_mem_take hx))
    exact num_accN0 hr h0 j _ _ (wth_lim hr hs hb) (fun x hx => hD x (List.mem_of_mem_drop hx)) (by rw [num_wth hr hs hb, h0]; simp)
theorem mtag_zero {D : List Int} (hD : Byt D) : mtag z32 D = List.replicate 16 0 := by
  have : num (facc (rOf z32) z5 D) = 0 := num_accN0 (rOf_lim z32_key.len z32_key.bd) (by rw [rOf_z32]; exact num_z5) _ _ _ z5_lim hD num_z5
  unfold mtag
  rw [this, sOf_z32]
  decide +kernel
set_option maxRecDepth 100000 in
theorem write_nil (u : Value) (W : World) : Calls Try.prog 16 #[.pointer none, u] W fun e w' => e = .returned (.tuple #[]) ∧ w' = W := by
  go_enter Try.func16, Try.ntmps16
  go_wp2
  first | go_end0 | refine bodyPost_ret (results_none rfl _ _ _) rfl ?_
  exact ⟨rfl, rfl⟩
end Go.Proofs.Ytgfamcadgahiiaa
namespace Go.Proofs.Ytgfamcadgahiiaa
set_option linter.unusedSimpArgs false
set_option linter.unusedVariables false
open Go.ChangeShapes Go.WideShapes Go.ChangeAt Go.RowKit Go.Pin Go.Prm
theorem scr_at {W : World} {q : Nat} (hq : W.heap.size = q) {a : Option Addr} {S : List Stp} (h : Scr W a S) (hb : ∀ q ∈ S, Byt q.2 ∧ q.2.length ≤ maxLen) (i : Nat) (hi : i < S.length) : ∃ b o u, a = some ⟨b, o, none⟩ ∧ (∀ Y, Below q W Y → Y.cell? ⟨b, o + i * 2, none⟩ = some (.bool (S.getD i (false, [])).1) ∧ Y.cell? ⟨b, o + i * 2 + 1, none⟩ = some u) ∧ (∀ bx, Src q W bx u (S.getD i (false, [])).2) ∧ Byt (S.getD i (false, [])).2 ∧ (S.getD i (false, [])).2.length ≤ maxLen := by
  obtain ⟨b, o, u, h1, h2, h3, h4⟩ := h i hi
  have hm : S.getD i (false, []) ∈ S := by rw [List.getD_eq_getElem?_getD, List.getElem?_eq_getElem hi]; exact List.getElem_mem _
  refine ⟨b, o, u, h1, fun Y hY => ⟨?_, ?_⟩, fun bx => by rw [← hq]; exact h4.src bx, (hb _ hm).1, (hb _ hm).2⟩
  · rw [World.cell?_of_block (a := ⟨b, o + i * 2, none⟩) (hY.block b (by rw [← hq]; exact World.block_lt_of_cell? W _ h2))]
    exact h2
  · rw [World.cell?_of_block (a := ⟨b, o + i * 2 + 1, none⟩) (hY.block b (by rw [← hq]; exact World.block_lt_of_cell? W _ h2))]
    exact h3
theorem tag_nil' (W : World) : Calls Try.prog 13 #[.pointer none] W fun e w' => e = .returned (.agg (VI .u8 z16)) ∧ Below W.heap.size W w' := tag_nil W
theorem mtag_zero' {D : List Int} (hD : Byt D) : mtag z32 D = z16 := mtag_zero hD
theorem wrapL {m : Nat} (h : m ≤ 131072) : wrap64 (131072 - (m : Int)) = ((131072 - m : Nat) : Int) ∧ IntKind.i64.wrap (131072 - (m : Int)) = ((131072 - m : Nat) : Int) := by
  rw [IntWalk.wrap64_in _ ⟨by omega, by omega⟩, IntWalk.i64_in _ ⟨by omega, by omega⟩]
  omega
set_option maxRecDepth 100000 in
set_option maxHeartbeats 16000000 in
theorem nothing_walk (S : List Stp) (a : Option Addr) (cap : Nat) (W : World) (hS : Scr W a S) (hb : ∀ q ∈ S, Byt q.2 ∧ q.2.length ≤ maxLen) :
    Calls Try.prog 7 #[.slice a S.length cap] W fun e w' => e = .returned (.bool true) ∧ Below W.heap.size W w' := by
  have e1 := (ev_nil' W).new (mst (.pointer none) z32 [])
  obtain ⟨q, hq⟩ : ∃ q, W.heap.size = q := ⟨_, rfl⟩
  have HSC : Hid (∀ i, i < S.length → ∃ b o u, a = some ⟨b, o, none⟩ ∧ (∀ Y, Below q W Y → Y.cell? ⟨b, o + i * 2, none⟩ = some (.bool (S.getD i (false, [])).1) ∧ Y.cell? ⟨b, o + i * 2 + 1, none⟩ = some u) ∧ (∀ bx, Src q W bx u (S.getD i (false, [])).2) ∧ Byt (S.getD i (false, [])).2 ∧ (S.getD i (false, [])).2.length ≤ maxLen) := fun i hi => scr_at hq hS hb i hi
  obtain ⟨W0, hW0⟩ : ∃ V, W.alloc (mst (.pointer none) z32 []) = V := ⟨_, rfl⟩
  rw [hW0, hq] at e1
  rw [zero_mac] at hW0
  have hW0' : W.alloc (.cells #[.pointer none, .int .u64 0, .int .u64 0, .int .u64 0, .int .u64 0, .int .u64 0, .int .u8 0, .int .u8 0, .int .u8 0, .int .u8 0, .int .u8 0, .int .u8 0, .int .u8 0, .int .u8 0, .int .u8 0, .int .u8 0, .int .u8 0, .int .u8 0, .int .u8 0, .int .u8 0, .int .u8 0, .int .u8 0, .int .u64 0, .int .u64 0, .int .u64 0, .int .u64 0, .int .u64 0, .int .u8 0, .int .u8 0, .int .u8 0, .int .u8 0, .int .u8 0, .int .u8 0, .int .u8 0, .int .u8 0, .int .u8 0, .int .u8 0, .int .u8 0, .int .u8 0, .int .u8 0, .int .u8 0, .int .u8 0, .int .u8 0, .int .u8 0, .int .i64 0] 69) = W0 := hW0
  have E1 : Hid (AS q W q z32 [] [] (.slice none 0 0) W0) := ⟨[], lst_nil _ _, e1, (fun p hp => nomatch hp)⟩
  rw [hq]
  obtain ⟨n, hn⟩ : ∃ n, S.length = n := ⟨_, rfl⟩
  rw [hn] at HSC ⊢
  have EQ0 : ∀ w, (Op.equalIn 10000 36 (.agg (VI .u8 z16)) (.agg #[.int .u8 0, .int .u8 0, .int .u8 0, .int .u8 0, .int .u8 0, .int .u8 0, .int .u8 0, .int .u8 0, .int .u8 0, .int .u8 0, .int .u8 0, .int .u8 0, .int .u8 0, .int .u8 0, .int .u8 0, .int .u8 0])).run Try.prog w = .ok true w := fun w => by
    have := eqT (x := z16) (y := z16) rfl rfl w
    rw [beq_self_eq_true] at this
    exact this
  have HB0 : Hid (Below q W W) := Below.refl _ _
  clear e1 hS hb hn hW0
  by_cases hbig : n ≤ 400
  · have b0 : ¬ (400 : Int) < (n : Int) := by omega
    have b0' : ¬ 400 < n := by omega
    have HB : Hid (n ≤ 400) := hbig
    clear hbig
    go_enter Try.func7, Try.ntmps7
    go_wp2
    go_loopw [5, 6] (fun vl vi w' => ∃ (i : Nat) (A : List Int), i ≤ n ∧ vi = .int .i64 (i : Int) ∧ A.length ≤ 131072 ∧ Byt A ∧ AS q W q z32 A A vl w') (fun _ vi _ => n - (intOf vi).toNat)
    case atStart => exact ⟨0, [], Nat.zero_le _, rfl, by simp, (fun x hx => nomatch hx), E1.out⟩
    case round =>
      clear E1 hW0'
      obtain ⟨i, A, hi, rfl, hA, hAb, has⟩ := hrel
      have HA : Hid (A.length ≤ 131072 ∧ Byt A ∧ i ≤ n) := ⟨hA, hAb, hi⟩
      obtain ⟨al, cl, rfl⟩ := has.slice
      have HAS : Hid (AS q W q z32 A A (.slice al A.length cl) wr) := has
      clear hA hAb has
      by_cases hlt : i < n
      · have b1 : (i : Int) < (n : Int) := by omega
        obtain ⟨b, o, u, rfl, hcc, hsu, hDb, hDm⟩ := HSC.out i hlt
        obtain ⟨D, hD⟩ : ∃ D, (S.getD i (false, [])).2 = D := ⟨_, rfl⟩
        obtain ⟨ask, hask⟩ : ∃ k, (S.getD i (false, [])).1 = k := ⟨_, rfl⟩
        rw [hD] at hsu hDb hDm
        rw [hask] at hcc
        have HCC : Hid _ := hcc
        obtain ⟨c1, c2⟩ := hcc wr HAS.out.old
        obtain ⟨au, cu, rfl, _, _⟩ := id (hsu [])
        obtain ⟨m, hm⟩ : ∃ m, D.length = m := ⟨_, rfl⟩
        obtain ⟨t, ht⟩ : ∃ t, A.length = t := ⟨_, rfl⟩
        have HD : Hid (Byt D ∧ D.length = m ∧ A.length = t ∧ (∀ bx, Src q W bx (.slice au m cu) D)) := ⟨hDb, hm, ht, by rw [← hm]; exact hsu⟩
        have HI1 : Hid (i < n ∧ n ≤ 400) := ⟨hlt, HB.out⟩
        rw [hm] at c2
        rw [ht] at HAS ⊢
        have htb : t ≤ 131072 := by rw [← ht]; exact HA.out.1
        have HWL : Hid (wrap64 (131072 - (t : Int)) = ((131072 - t : Nat) : Int) ∧ IntKind.i64.wrap (131072 - (t : Int)) = ((131072 - t : Nat) : Int)) := wrapL htb
        obtain ⟨r, hr⟩ : ∃ r, 131072 - t = r := ⟨_, rfl⟩
        rw [hr] at HWL
        clear hcc hsu hDb hDm hD hask hm ht hi
        by_cases hgt : r < m
        · have b2 : (r : Int) < (m : Int) := by omega
          have HF : Hid (Below q W wr) := HAS.out.old
          obtain ⟨hw, hw'⟩ := HWL.out
          clear htb hr
          go_wp2
          go_ret
          exact ⟨rfl, HF.out⟩
        · have b2 : ¬ (r : Int) < (m : Int) := by omega
          have HMT : Hid (t + m ≤ 131072) := by show t + m ≤ 131072; omega
          obtain ⟨hw, hw'⟩ := HWL.out
          have CWN : Hid (Calls Try.prog 16 #[.pointer none, .slice au m cu] wr fun e w' => e = .returned (.tuple #[]) ∧ w' = wr) := write_nil _ wr
          have CW : Hid (Calls Try.prog 16 #[.pointer (some ⟨q, 0, none⟩), .slice au m cu] wr fun e w' => e = .returned (.tuple #[]) ∧ AS q W q z32 (A ++ D) A (.slice al t cl) w') := HAS.out.write z32_key HA.out.2.1 HD.out.1 (by rw [HD.out.2.1]; have := HMT.out; omega) (HD.out.2.2.2 [])
          clear htb hr hgt
          cases ask
          · go_wp2_with (first | (go_at_call 16; first | (refine Calls.mono CWN.out ?_; rintro e w2 ⟨rfl, hV⟩; obtain rfl := hV; clear CWN) | (refine Calls.mono CW.out ?_; rintro e w3 ⟨rfl, h3⟩; have HAP : Hid _ := fun ty => AS.app (u := .slice au m cu) h3 (HD.out.2.2.2 []) (by rw [HD.out.2.1, HD.out.2.2.1]; have := HMT.out; omega) ty; clear h3)) | (at_builtin; refine wpList_app _ rfl (.tmp 36) (.tmp 37) 30 30 rfl _ _ rfl rfl HAP.out ?_; intro v5 w5 h5; have c5 := (HCC.out w5 h5.old).1; have H5 : Hid _ := h5; clear h5))
            go_roundw
            case rel => exact ⟨i + 1, A ++ D, HI1.out.1, by go_num, by rw [List.length_append, HD.out.2.1, HD.out.2.2.1]; exact HMT.out, (fun x hx => by
              rcases List.mem_append.1 hx with hx | hx
              · exact HA.out.2.1 x hx
              · exact HD.out.1 x hx), H5.out⟩
            case measure => have := HI1.out; simp only [intOf]; omega
          · have HADB : Hid (Byt (A ++ D) ∧ (A ++ D).length ≤ 131072) := by
              have : Byt (A ++ D) ∧ (A ++ D).length ≤ 131072 := ⟨(fun x hx => by
                rcases List.mem_append.1 hx with hx | hx
                · exact HA.out.2.1 x hx
                · exact HD.out.1 x hx), by rw [List.length_append, HD.out.2.1, HD.out.2.2.1]; exact HMT.out⟩
              exact this
            have EQT : ∀ w, (Op.equalIn 10000 36 (.agg (VI .u8 (mtag z32 (A ++ D)))) (.agg (VI .u8 (mtag z32 (A ++ D))))).run Try.prog w = .ok true w := fun w => by
              rw [eqT (mtag_len _ _) (mtag_len _ _), beq_self_eq_true]
            go_wp2_with (first | (go_at_call 16; first | (refine Calls.mono CWN.out ?_; rintro e w2 ⟨rfl, hV⟩; obtain rfl := hV; clear CWN) | (refine Calls.mono CW.out ?_; rintro e w3 ⟨rfl, h3⟩; have HAP : Hid _ := fun ty => AS.app (u := .slice au m cu) h3 (HD.out.2.2.2 []) (by rw [HD.out.2.1, HD.out.2.2.1]; have := HMT.out; omega) ty; clear h3)) | (at_builtin; refine wpList_app _ rfl (.tmp 36) (.tmp 37) 30 30 rfl _ _ rfl rfl HAP.out ?_; intro v5 w5 h5; have c5 := (HCC.out w5 h5.old).1; have CTN : Hid _ := tag_nil' w5; have H5 : Hid _ := h5; clear h5) | (go_at_call 13; first | (refine Calls.mono CTN.out ?_; rintro e w6 ⟨rfl, hb6⟩; have h6 := AS.below H5.out hb6; have CT : Hid _ := AS.tag h6 z32_key HADB.out.1; clear h6 hb6 CTN) | (refine Calls.mono CT.out ?_; rintro e w7 ⟨rfl, h7⟩; have CR : Hid _ := AS.rtag (k := z32) h7 z32_key HADB.out.1 (by have := HADB.out.2; omega); clear h7)) | (go_at_call 14; refine Calls.mono CR.out ?_; rintro e w8 ⟨rfl, h8⟩; have H8 : Hid _ := h8; clear h8))
            go_roundw
            case rel => exact ⟨i + 1, A ++ D, HI1.out.1, by go_num, HADB.out.2, HADB.out.1, H8.out⟩
            case measure => have := HI1.out; simp only [intOf]; omega
      · have b1 : ¬ (i : Int) < (n : Int) := by omega
        have CTN : Hid (Calls Try.prog 13 #[.pointer none] wr fun e w' => e = .returned (.agg (VI .u8 z16)) ∧ AS q W q z32 A A (.slice al A.length cl) w') := (tag_nil' wr).mono (fun e w' hh => ⟨hh.1, HAS.out.below hh.2⟩)
        clear hi
        go_wp2_with (first | (go_at_call 13; first | (refine Calls.mono CTN.out ?_; rintro e w6 ⟨rfl, h6⟩; have CT : Hid _ := AS.tag h6 z32_key HA.out.2.1; rw [mtag_zero' HA.out.2.1] at CT; clear h6 CTN) | (refine Calls.mono CT.out ?_; rintro e w7 ⟨rfl, h7⟩; have CK : Hid (Calls Try.prog 21 #[] w7 fun e w' => e = .returned (.bool true) ∧ Below q W w') := (known_any w7).mono (fun e w' hh => ⟨hh.1, (AS.below h7 hh.2).old⟩); clear h7)) | (go_at_call 21; refine Calls.mono CK.out ?_; rintro e w8 ⟨rfl, h8⟩; have H8 : Hid _ := h8; clear h8))
        go_ret
        exact ⟨rfl, H8.out⟩
  · have b0 : (400 : Int) < (n : Int) := by omega
    have b0' : 400 < n := by omega
    go_enter Try.func7, Try.ntmps7
    go_wp2
    go_ret
    exact ⟨rfl, HB0.out⟩
end Go.Proofs.Ytgfamcadgahiiaa
namespace Go.Proofs.Ytgfamcadgahiiaa
set_option linter.unusedSimpArgs false
set_option linter.unusedVariables false
open Go.ChangeShapes Go.WideShapes Go.ChangeAt Go.RowKit Go.Pin Go.Prm
/-- one of the two: its Mac at g, its key's box at k, the key, what it has taken, its list -/
structure One where
  g : Nat
  k : Nat
  key : List Int
  M : List Int
  A : List Int
  v : Value
def One.fx (o : One) : List (Nat × Obj) := [(o.g, mst (.pointer none) o.key o.M), (o.k, .cells (VI .u8 o.key) 23)]
/-- both -/
def TS (q : Nat) (W : World) (x y : One) (w' : World) : Prop :=
  ∃ lx ly, Lst 5 1 x.v x.A.length (x.A.map (Value.int .u8)) lx ∧ Lst 5 1 y.v y.A.length (y.A.map (Value.int .u8)) ly ∧ Ev q W (.pointer none) [] (lx ++ (ly ++ (x.fx ++ y.fx))) w' ∧ (∀ p ∈ lx, ∀ r ∈ ly ++ (x.fx ++ y.fx), r.1 ≠ p.1) ∧ (∀ p ∈ ly, ∀ r ∈ x.fx ++ y.fx, r.1 ≠ p.1) ∧ (x.k ≠ x.g ∧ y.g ≠ x.g ∧ y.k ≠ x.g ∧ x.k ≠ y.g ∧ y.k ≠ y.g)
section
variable {q : Nat} {W : World} {x y : One} {w' : World}
theorem perm3 {α : Type} {a b c d : List α} {p : α} (h : p ∈ b ++ (a ++ (d ++ c))) : p ∈ a ++ (b ++ (c ++ d)) := by
  simp only [List.mem_append] at h ⊢
  rcases h with h | h | h | h
  · exact .inr (.inl h)
  · exact .inl h
  · exact .inr (.inr (.inr h))
  · exact .inr (.inr (.inl h))
theorem TS.swap (h : TS q W x y w') : TS q W y x w' := by
  obtain ⟨lx, ly, h1, h2, h3, h4, h5, h6⟩ := h
  refine ⟨ly, lx, h2, h1, h3.sub (fun p hp => perm3 hp), fun p hp r hr => ?_, fun p hp r hr => ?_, ⟨h6.2.2.2.2, fun e => h6.2.1 e.symm, h6.2.2.2.1, h6.2.2.1, h6.1⟩⟩
  · simp only [List.mem_append] at hr
    rcases hr with hr | hr | hr
    · exact fun e => h4 r hr p (List.mem_append_left _ hp) e.symm
    · exact h5 p hp r (List.mem_append_right _ hr)
    · exact h5 p hp r (List.mem_append_left _ hr)
  · simp only [List.mem_append] at hr
    rcases hr with hr | hr
    · exact h4 p hp r (List.mem_append_right _ (List.mem_append_right _ hr))
    · exact h4 p hp r (List.mem_append_right _ (List.mem_append_left _ hr))
theorem TS.old (h : TS q W x y w') : Below q W w' := by
  obtain ⟨lx, ly, _, _, h, _⟩ := h
  exact h.old
theorem TS.slice (h : TS q W x y w') : ∃ a c, x.v = .slice a x.A.length c := by
  obtain ⟨lx, ly, h, _⟩ := h
  exact h.slice
theorem TS.below (h : TS q W x y w') {w2 : World} (hb : Below w'.heap.size w' w2) : TS q W x y w2 := by
  obtain ⟨lx, ly, h1, h2, h3, h4⟩ := h
  exact ⟨lx, ly, h1, h2, h3.below hb, h4⟩
theorem TS.key (h : TS q W x y w') : w'.heap[x.k]? = some (.cells (VI .u8 x.key) 23) := by
  obtain ⟨lx, ly, _, _, h, _⟩ := h
  exact h.row (List.mem_append_right _ (List.mem_append_right _ (List.mem_append_left _ mem1)))
/-- the Mac of one ahead -/
theorem TS.front (h : TS q W x y w') : ∃ lx ly, Lst 5 1 x.v x.A.length (x.A.map (Value.int .u8)) lx ∧ Lst 5 1 y.v y.A.length (y.A.map (Value.int .u8)) ly ∧ Ev q W (.pointer none) [] ((x.g, mst (.pointer none) x.key x.M) :: (lx ++ (ly ++ ([(x.k, .cells (VI .u8 x.key) 23)] ++ y.fx)))) w' ∧ (∀ p ∈ lx ++ (ly ++ ([(x.k, Obj.cells (VI .u8 x.key) 23)] ++ y.fx)), p.1 ≠ x.g) ∧
    (∀ w2 (M' : List Int) l, Ev q W (.pointer none) l ((x.g, mst (.pointer none) x.key M') :: (lx ++ (ly ++ ([(x.k, .cells (VI .u8 x.key) 23)] ++ y.fx)))) w2 → TS q W { x with M := M' } y w2) := by
  obtain ⟨lx, ly, h1, h2, h3, h4, h5, h6⟩ := h
  refine ⟨lx, ly, h1, h2, h3.sub (fun p hp => ?_), fun p hp => ?_, fun w2 M' l h7 => ⟨lx, ly, h1, h2, (h7.nilOf []).sub (fun p hp => ?_), fun p hp r hr => ?_, fun p hp r hr => ?_, h6⟩⟩
  · simp only [One.fx, List.mem_cons, List.mem_append, List.not_mem_nil, or_false] at hp ⊢
    rcases hp with hp | hp | hp | hp | hp | hp
    · exact .inr (.inr (.inl (.inl hp)))
    · exact .inl hp
    · exact .inr (.inl hp)
    · exact .inr (.inr (.inl (.inr hp)))
    · exact .inr (.inr (.inr (.inl hp)))
    · exact .inr (.inr (.inr (.inr hp)))
  · simp only [One.fx, List.mem_cons, List.mem_append, List.not_mem_nil, or_false] at hp
    rcases hp with hp | hp | rfl | rfl | rfl
    · exact fun e => h4 p hp (x.g, mst (.pointer none) x.key x.M) (by simp [One.fx]) e.symm
    · exact fun e => h5 p hp (x.g, mst (.pointer none) x.key x.M) (by simp [One.fx]) e.symm
    · exact h6.1
    · exact h6.2.1
    · exact h6.2.2.1
  · simp only [One.fx, List.mem_cons, List.mem_append, List.not_mem_nil, or_false] at hp ⊢
    rcases hp with hp | hp | (hp | hp) | hp | hp
    · exact .inr (.inl hp)
    · exact .inr (.inr (.inl hp))
    · exact .inl hp
    · exact .inr (.inr (.inr (.inl hp)))
    · exact .inr (.inr (.inr (.inr (.inl hp))))
    · exact .inr (.inr (.inr (.inr (.inr hp))))
  · simp only [One.fx, List.mem_cons, List.mem_append, List.not_mem_nil, or_false] at hr
    rcases hr with hr | (rfl | rfl) | rfl | rfl
    · exact h4 p hp r (List.mem_append_left _ hr)
    · exact h4 p hp (x.g, mst (.pointer none) x.key x.M) (by simp [One.fx])
    · exact h4 p hp (x.k, .cells (VI .u8 x.key) 23) (by simp [One.fx])
    · exact h4 p hp (y.g, mst (.pointer none) y.key y.M) (by simp [One.fx])
    · exact h4 p hp (y.k, .cells (VI .u8 y.key) 23) (by simp [One.fx])
  · simp only [One.fx, List.mem_cons, List.mem_append, List.not_mem_nil, or_false] at hr
    rcases hr with (rfl | rfl) | rfl | rfl
    · exact h5 p hp (x.g, mst (.pointer none) x.key x.M) (by simp [One.fx])
    · exact h5 p hp (x.k, .cells (VI .u8 x.key) 23) (by simp [One.fx])
    · exact h5 p hp (y.g, mst (.pointer none) y.key y.M) (by simp [One.fx])
    · exact h5 p hp (y.k, .cells (VI .u8 y.key) 23) (by simp [One.fx])
theorem TS.write (h : TS q W x y w') (hk : Key32 x.key) (hM : Byt x.M) {u : Value} {D : List Int} (hD : Byt D) (hl : D.length ≤ 600000) (hS : Src q W [] u D) :
    Calls Try.prog 16 #[.pointer (some ⟨x.g, 0, none⟩), u] w' fun e w2 => e = .returned (.tuple #[]) ∧ TS q W { x with M := x.M ++ D } y w2 := by
  obtain ⟨lx, ly, h1, h2, h3, h4, h5⟩ := h.front
  refine (mwrite_any h3 h4 (fun h => absurd rfl h) hk hM hD (hS.sub (by simp))).mono ?_
  rintro e w2 ⟨rfl, h6⟩
  exact ⟨rfl, h5 _ _ _ h6⟩
theorem TS.tag (h : TS q W x y w') (hk : Key32 x.key) (hM : Byt x.M) :
    Calls Try.prog 13 #[.pointer (some ⟨x.g, 0, none⟩)] w' fun e w2 => e = .returned (.agg (VI .u8 (mtag x.key x.M))) ∧ TS q W x y w2 := by
  obtain ⟨lx, ly, h1, h2, h3, h4, h5⟩ := h.front
  refine (mtag_any h3 (fun h => absurd rfl h) hk hM).mono ?_
  rintro e w2 ⟨rfl, h6⟩
  exact ⟨rfl, h5 _ _ _ h6⟩
theorem TS.app (h : TS q W x y w') {u : Value} {D : List Int} (hS : Src q W [] u D) (hn : x.A.length + D.length ≤ 1000000) (ty : TypeId) :
    ∃ v' w2, (Builtin.append_ #[30, 30] ty #[x.v, u]).run Try.prog w' = .ok v' w2 ∧ TS q W { x with A := x.A ++ D, v := v' } y w2 := by
  obtain ⟨lx, ly, h1, h2, h3, h4, h5, h6⟩ := h
  obtain ⟨v', w2, hr, lb', hL, he, hd⟩ := h3.appB h1 h4 ty (hS.sub (by simp)) hn
  exact ⟨v', w2, hr, lb', ly, by rw [List.length_append]; exact hL, h2, he, hd, h5, h6⟩
theorem TS.rtag (h : TS q W x y w') (hk : Key32 x.key) (hA : Byt x.A) (hn : x.A.length ≤ 1000000) :
    Calls Try.prog 14 #[.agg (VI .u8 x.key), x.v] w' fun e w2 => e = .returned (.agg (VI .u8 (mtag x.key x.A))) ∧ TS q W x y w2 := by
  obtain ⟨a, c, hv⟩ := h.slice
  have hr : RdB w' (.slice a x.A.length c) x.A := by
    obtain ⟨lx, ly, h1, _, h3, _⟩ := h
    rw [hv] at h1
    exact h1.rdb (fun p hp => h3.at' p (List.mem_append_left _ hp))
  rw [hv]
  exact (rtag_any w' x.key hk x.A hA a x.A.length c hr hn).mono (fun e w2 hh => ⟨hh.1, h.below hh.2⟩)
end
end Go.Proofs.Ytgfamcadgahiiaa
