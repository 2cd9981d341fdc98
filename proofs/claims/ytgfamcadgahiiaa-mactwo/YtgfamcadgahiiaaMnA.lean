import Derived.Test.YtgfamcadgahiiaaMrB
import Derived.Test.YtgfamcadgahiiaaMacM
import Derived.Test.YtgfamcadgahiiaaMacOs
namespace Go.Proofs.Ytgfamcadgahiiaa
set_option linter.unusedSimpArgs false
set_option linter.unusedVariables false
open Go.ChangeShapes Go.WideShapes Go.ChangeAt Go.RowKit Go.Pin Go.Prm
theorem wpList_app {P : Program} (w : World) {ops : Array Oper} {rest : List Oper} {o : Oper} {a : Act} {Q : Exit → Act → World → Prop} {R : Value → World → Prop} (hgd : o.guard = none) (d s : Operand) (t t' : TypeId)
    (ho : o.op = .call { callee := .builtin .append, args := #[d, s], argTypes := #[t, t'] }) (v u : Value) (hd : a.eval d = v) (hs : a.eval s = u)
    (hr : ∀ ty, ∃ v' w', (Builtin.append_ #[t, t'] ty #[v, u]).run P w = .ok v' w' ∧ R v' w') (h : ∀ v' w', R v' w' → wpList P ops Q rest (a.put o.dst v') w') : wpList P ops Q (o :: rest) a w :=
  wpList_plain hgd fun _ hK => by
    obtain ⟨v', w', h1, h2⟩ := hr o.type
    unfold Oper.wp execOp
    simp only [ho, resolve, invoke, builtin, Sem.run_bind, Sem.run_pure, Result.andThen_ok, List.map_toArray, List.map_cons, List.map_nil, hd, hs, h1]
    exact hK _ _ (h v' w' h2)
theorem Lst.slice {T : TypeId} {sz : Nat} {v : Value} {n : Nat} {xs : List Value} {lb : List (Nat × Obj)} (h : Lst T sz v n xs lb) : ∃ a c, v = .slice a n c := by
  rcases h.2 with ⟨h1, h2, _⟩ | ⟨g, cap, cur, h1, _⟩
  · exact ⟨none, 0, by rw [h1, h2]⟩
  · exact ⟨_, _, h1⟩
/-- a list of bytes is read -/
theorem Lst.rdb {v : Value} {A : List Int} {lb : List (Nat × Obj)} (h : Lst 5 1 v A.length (A.map (Value.int .u8)) lb) {W : World} (hat : ∀ p ∈ lb, W.heap[p.1]? = some p.2) : RdB W v A := by
  rcases h.2 with ⟨h1, h2, _⟩ | ⟨g, cap, cur, h1, h2, h3, h4, h5, h6⟩
  · have e : A = [] := List.length_eq_zero_iff.1 h2
    subst e
    exact ⟨none, 0, h1, Nat.le_refl _, .inl rfl⟩
  · refine ⟨_, cap, h1, h3, .inr ⟨g, 0, rfl, fun j u hu => ?_⟩⟩
    have hrow := hat (g, .cells cur 5 (0, 0)) (by rw [h2]; exact mem0)
    have hj : j < A.length := by have := (List.getElem?_eq_some_iff.1 hu).1; rw [List.length_map] at this; exact this
    rw [cell_of_row W _ _ _ _ _ hrow, Nat.zero_add, ← hu, ← h6, List.getElem?_take_of_lt (by omega)]
    simp
/-- a Mac that has taken M beside a list of bytes A -/
def AS (q : Nat) (W : World) (g : Nat) (key M A : List Int) (vl : Value) (w' : World) : Prop :=
  ∃ lb, Lst 5 1 vl A.length (A.map (Value.int .u8)) lb ∧ Ev q W (.pointer none) [] (lb ++ [(g, mst (.pointer none) key M)]) w' ∧ (∀ p ∈ lb, p.1 ≠ g)
section
variable {q : Nat} {W : World} {g : Nat} {key M A : List Int} {vl : Value} {w' : World}
theorem AS.old (h : AS q W g key M A vl w') : Below q W w' := by
  obtain ⟨lb, _, h, _⟩ := h
  exact h.old
theorem AS.slice (h : AS q W g key M A vl w') : ∃ a c, vl = .slice a A.length c := by
  obtain ⟨lb, h, _⟩ := h
  exact h.slice
theorem AS.below (h : AS q W g key M A vl w') {w2 : World} (hb : Below w'.heap.size w' w2) : AS q W g key M A vl w2 := by
  obtain ⟨lb, h1, h2, h3⟩ := h
  exact ⟨lb, h1, h2.below hb, h3⟩
theorem AS.flip (lb : List (Nat × Obj)) (x : Nat × Obj) (h : Ev q W (.pointer none) [] (lb ++ [x]) w') : Ev q W (.pointer none) [] (x :: lb) w' := h.sub (fun p hp => by
  rcases List.mem_cons.1 hp with rfl | hp
  · exact List.mem_append_right _ mem0
  · exact List.mem_append_left _ hp)
theorem AS.unflip {l : List (Int × Int)} (lb : List (Nat × Obj)) (x : Nat × Obj) (h : Ev q W (.pointer none) l (x :: lb) w') : Ev q W (.pointer none) [] (lb ++ [x]) w' := (h.nilOf []).sub (fun p hp => by
  rcases List.mem_append.1 hp with hp | hp
  · exact memr1 hp
  · rw [List.mem_singleton.1 hp]; exact mem0)
theorem AS.write (h : AS q W g key M A vl w') (hk : Key32 key) (hM : Byt M) {u : Value} {D : List Int} (hD : Byt D) (hl : D.length ≤ 600000) (hS : Src q W [] u D) :
    Calls Try.prog 16 #[.pointer (some ⟨g, 0, none⟩), u] w' fun e w2 => e = .returned (.tuple #[]) ∧ AS q W g key (M ++ D) A vl w2 := by
  obtain ⟨lb, h1, h2, h3⟩ := h
  refine (mwrite_any (AS.flip _ _ h2) h3 (by simp; omega) hk hM hD (hS.sub (by simp))).mono ?_
  rintro e w2 ⟨rfl, h4⟩
  exact ⟨rfl, lb, h1, AS.unflip _ _ h4, h3⟩
theorem AS.tag (h : AS q W g key M A vl w') (hk : Key32 key) (hM : Byt M) :
    Calls Try.prog 13 #[.pointer (some ⟨g, 0, none⟩)] w' fun e w2 => e = .returned (.agg (VI .u8 (mtag key M))) ∧ AS q W g key M A vl w2 := by
  obtain ⟨lb, h1, h2, h3⟩ := h
  refine (mtag_any (AS.flip _ _ h2) (by decide) hk hM).mono ?_
  rintro e w2 ⟨rfl, h4⟩
  exact ⟨rfl, lb, h1, AS.unflip _ _ h4, h3⟩
theorem AS.app (h : AS q W g key M A vl w') {u : Value} {D : List Int} (hS : Src q W [] u D) (hn : A.length + D.length ≤ 1000000) (ty : TypeId) :
    ∃ v' w2, (Builtin.append_ #[30, 30] ty #[vl, u]).run Try.prog w' = .ok v' w2 ∧ AS q W g key M (A ++ D) v' w2 := by
  obtain ⟨lb, h1, h2, h3⟩ := h
  obtain ⟨v', w2, hr, lb', hL, he, hd⟩ := h2.appB h1 (fun p hp r hr => by rw [List.mem_singleton.1 hr]; exact fun e => h3 p hp e.symm) ty (hS.sub (by simp)) hn
  exact ⟨v', w2, hr, lb', by rw [List.length_append]; exact hL, he, fun p hp e => hd p hp _ mem0 e.symm⟩
theorem AS.rtag (h : AS q W g key M A vl w') {k : List Int} (hk : Key32 k) (hA : Byt A) (hn : A.length ≤ 1000000) :
    Calls Try.prog 14 #[.agg (VI .u8 k), vl] w' fun e w2 => e = .returned (.agg (VI .u8 (mtag k A))) ∧ AS q W g key M A vl w2 := by
  obtain ⟨a, c, rfl⟩ := h.slice
  have hr : RdB w' (.slice a A.length c) A := by
    obtain ⟨lb, h1, h2, _⟩ := h
    exact h1.rdb (fun p hp => h2.at' p (List.mem_append_left _ hp))
  exact (rtag_any w' k hk A hA a A.length c hr hn).mono (fun e w2 hh => ⟨hh.1, h.below hh.2⟩)
end
/-! the zero Mac -/
def z32 : List Int := List.replicate 32 0
theorem z32_key : Key32 z32 := ⟨rfl, by decide⟩
theorem rOf_z32 : rOf z32 = z5 := by decide +kernel
theorem sOf_z32 : sOf z32 = z16 := by decide +kernel
theorem zero_mac : mst (.pointer none) z32 [] = macO (.pointer none) z5 z16 z5 z17 0 := by rw [mst_zero, rOf_z32, sOf_z32]
theorem num_accN0 {r : List Int} (hr : Lim r) (h0 : num r = 0) : ∀ (j : Nat) (s D : List Int), Lim s → Byt D → num s = 0 → num (accN r j s D) = 0
  | 0, _, _, _, _, h => h
  | j + 1, s, D, hs, hD, h => by
    have hb : Byt (blkOf (D.take 16)) := blkOf_byt (fun x hx => hD x (List.mem_of_mem_take hx))
    exact num_accN0 hr h0 j _ _ (wth_lim hr hs hb) (fun x hx => hD x (List.mem_of_mem_drop hx)) (by rw [num_wth hr hs hb, h0]; simp)
theorem mtag_zero {D : List Int} (hD : Byt D) : mtag z32 D = List.replicate 16 0 := by
  have : num (facc (rOf z32) z5 D) = 0 := num_accN0 (rOf_lim z32_key.len z32_key.bd) (by rw [rOf_z32]; exact num_z5) _ _ _ z5_lim hD num_z5
  unfold mtag
  rw [this, sOf_z32]
  decide +kernel
set_option maxRecDepth 100000 in
theorem write_nil (u : Value) (W : World) : Calls Try.prog 16 #[.pointer none, u] W fun e w' => e = .returned (.tuple #[]) ∧ w' = W := by
  go_enter Try.func16, Try.ntmps16
  go_wp2
  first | go_end0 | refine bodyPost_ret (results_none rfl _ _ _) rfl ?_
  exact ⟨rfl, rfl⟩
end Go.Proofs.Ytgfamcadgahiiaa
