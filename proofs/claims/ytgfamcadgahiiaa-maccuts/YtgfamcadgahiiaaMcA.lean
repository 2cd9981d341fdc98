import Derived.Test.YtgfamcadgahiiaaMacM
import Derived.Test.YtgfamcadgahiiaaMacOi
import Derived.Test.YtgfamcadgahiiaaMacK
namespace Go.Proofs.Ytgfamcadgahiiaa
set_option linter.unusedSimpArgs false
set_option linter.unusedVariables false
open Go.ChangeShapes Go.WideShapes Go.ChangeAt Go.RowKit Go.Pin Go.Prm
theorem wpList_app {P : Program} (w : World) {ops : Array Oper} {rest : List Oper} {o : Oper} {a : Act} {Q : Exit → Act → World → Prop} {R : Value → World → Prop} (hgd : o.guard = none) (d s : Operand) (t t' : TypeId)
    (ho : o.op = .call { callee := .builtin .append, args := #[d, s], argTypes := #[t, t'] }) (v u : Value) (hd : a.eval d = v) (hs : a.eval s = u)
    (hr : ∀ ty, ∃ v' w', (Builtin.append_ #[t, t'] ty #[v, u]).run P w = .ok v' w' ∧ R v' w') (h : ∀ v' w', R v' w' → wpList P ops Q rest (a.put o.dst v') w') : wpList P ops Q (o :: rest) a w :=
  wpList_plain hgd fun _ hK => by
    obtain ⟨v', w', h1, h2⟩ := hr o.type
    unfold Oper.wp execOp
    simp only [ho, resolve, invoke, builtin, Sem.run_bind, Sem.run_pure, Result.andThen_ok, List.map_toArray, List.map_cons, List.map_nil, hd, hs, h1]
    exact hK _ _ (h v' w' h2)
/-- a part of a slice -/
theorem run_mid (w : World) (a : Option Addr) (n cap x y : Nat) (x' y' : Int) (hx : x' = (x : Int)) (hy : y' = (y : Int)) (hxy : x ≤ y) (hyn : y ≤ cap) : (Instr.slice 30 (.slice a n cap) (some (.int .i64 x')) (some (.int .i64 y')) none).run Try.prog w = .ok (.slice (adv a cap x) (y - x) (cap - x)) w := by
  subst hx; subst hy
  have h1 : ((x : Nat) : Int) ≤ (y : Int) := by omega
  have h2 : ((y : Nat) : Int) ≤ (cap : Int) := by omega
  simp [Instr.slice, run_underlying Try.underlying30, Instr.sliceBounds, run_sliceBound, size_u8, sliced, h1, h2, hxy, hyn, adv]
theorem Src.mid {B : Nat} {w : World} {bx : List (Nat × Obj)} {a : Option Addr} {n cap : Nat} {D : List Int} (h : Src B w bx (.slice a n cap) D) (x y : Nat) (hxy : x ≤ y) (hy : y ≤ n) : Src B w bx (.slice (adv a cap x) (y - x) (cap - x)) ((D.drop x).take (y - x)) := by
  have hl := h.len
  have h2 := h.from' x (by omega)
  obtain ⟨a', c', e, hc, h3⟩ := h2
  injection e with e1 e2 e3
  have hl2 : ((D.drop x).take (y - x)).length = y - x := by rw [List.length_take, List.length_drop, hl.1]; omega
  refine ⟨adv a cap x, cap - x, by rw [hl2], by rw [hl2]; omega, ?_⟩
  rcases h3 with h3 | ⟨b, o, h3, h4⟩
  · left; rw [h3]; simp
  · right
    refine ⟨b, o, by rw [e1]; exact h3, fun W hW hq => ?_⟩
    rw [List.map_take]
    exact range_take (h4 W hW hq) (y - x)
/-- the state of the cuts: x bytes are written, pieces Ps are gathered -/
def CS (q : Nat) (W : World) (g p7 : Nat) (key D : List Int) (x : Nat) (Ps : List (List Int)) (vl : Value) (w' : World) : Prop :=
  ∃ vs lb, Lst 30 1 vl Ps.length vs lb ∧ (∀ j, j < Ps.length → Src q W [] (vs.getD j (.slice none 0 0)) (Ps.getD j [])) ∧ Ev q W (.pointer none) [] (lb ++ [(g, mst (.pointer none) key (D.take x)), (p7, .cells (VI .u8 (mtag key D)) 36), (q, .cells (VI .u8 key) 23)]) w' ∧ (∀ p ∈ lb, p.1 ≠ g ∧ p.1 ≠ p7 ∧ p.1 ≠ q)
theorem CS.old {q : Nat} {W : World} {g p7 : Nat} {key D : List Int} {x : Nat} {Ps : List (List Int)} {vl : Value} {w' : World} (h : CS q W g p7 key D x Ps vl w') : Below q W w' := by
  obtain ⟨vs, lb, _, _, h, _⟩ := h
  exact h.old
theorem CS.ev {q : Nat} {W : World} {g p7 : Nat} {key D : List Int} {x : Nat} {Ps : List (List Int)} {vl : Value} {w' : World} (h : CS q W g p7 key D x Ps vl w') : Ev q W (.pointer none) [] [(g, mst (.pointer none) key (D.take x)), (p7, .cells (VI .u8 (mtag key D)) 36), (q, .cells (VI .u8 key) 23)] w' := by
  obtain ⟨vs, lb, _, _, h, _⟩ := h
  exact h.sub (fun p hp => List.mem_append_right _ hp)
theorem CS.below {q : Nat} {W : World} {g p7 : Nat} {key D : List Int} {x : Nat} {Ps : List (List Int)} {vl : Value} {w' w2 : World} (h : CS q W g p7 key D x Ps vl w') (hb : Below w'.heap.size w' w2) : CS q W g p7 key D x Ps vl w2 := by
  obtain ⟨vs, lb, h1, h2, h3, h4⟩ := h
  exact ⟨vs, lb, h1, h2, h3.below hb, h4⟩
theorem CS.app {q : Nat} {W : World} {g p7 : Nat} {key D : List Int} {x : Nat} {Ps : List (List Int)} {vl : Value} {w' : World} (h : CS q W g p7 key D x Ps vl w') {a : Option Addr} {m c : Nat} {P : List Int} (hP : Src q W [] (.slice a m c) P) (hn : Ps.length ≤ 1000) (ty : TypeId) :
    ∃ v' w2, (Builtin.append_ #[48, 48] ty #[vl, .slice (some ⟨w'.heap.size, 0, none⟩) 1 1]).run Try.prog (w'.alloc (.cells #[.slice a m c] 30)) = .ok v' w2 ∧ CS q W g p7 key D x (Ps ++ [P]) v' w2 := by
  obtain ⟨vs, lb, h1, h2, h3, h4⟩ := h
  have h3' := h3.below (w' := w'.alloc (.cells #[.slice a m c] 30)) ((Below.refl _ _).alloc (Nat.le_refl _) _)
  obtain ⟨v', w2, hr, lb', hL, he, hd⟩ := h3'.appS h1 (fun p hp r hr => by
    obtain ⟨k1, k2, k3⟩ := h4 p hp
    simp only [List.mem_cons, List.not_mem_nil, or_false] at hr
    rcases hr with rfl | rfl | rfl
    · exact fun e => k1 e.symm
    · exact fun e => k2 e.symm
    · exact fun e => k3 e.symm) ty (heap_alloc_new w' _) hn
  refine ⟨v', w2, hr, vs ++ [.slice a m c], lb', by rw [List.length_append]; exact hL, fun j hj => ?_, he, fun p hp => ?_⟩
  · have hvl : vs.length = Ps.length := by have := h1.1; omega
    rw [List.length_append] at hj
    by_cases hjl : j < Ps.length
    · have := h2 j hjl
      rw [List.getD_eq_getElem?_getD, List.getElem?_append_left (by omega), ← List.getD_eq_getElem?_getD, List.getD_eq_getElem?_getD (l := Ps ++ [P]), List.getElem?_append_left hjl, ← List.getD_eq_getElem?_getD]
      exact this
    · have hj' : j = Ps.length := by simp at hj; omega
      subst hj'
      rw [List.getD_eq_getElem?_getD, List.getElem?_append_right (by omega), List.getD_eq_getElem?_getD, List.getElem?_append_right (Nat.le_refl _), hvl]
      simpa using hP
  · have k := hd p hp
    refine ⟨fun e => k _ mem0 e.symm, fun e => k _ mem1 e.symm, fun e => k _ mem2 e.symm⟩
theorem CS.write {q : Nat} {W : World} {g p7 : Nat} {key D : List Int} {x y : Nat} {Ps : List (List Int)} {vl : Value} {w' : World} (h : CS q W g p7 key D x Ps vl w') (hk : Key32 key) (hD : Byt D) (hDl : D.length ≤ 131072) (hgp : g ≠ p7) (hgq : g ≠ q) {u : Value} {P : List Int} (hP : Src q W [] u P) (hxy : D.take x ++ P = D.take y) :
    Calls Try.prog 16 #[.pointer (some ⟨g, 0, none⟩), u] w' fun e w2 => e = .returned (.tuple #[]) ∧ CS q W g p7 key D y Ps vl w2 := by
  obtain ⟨vs, lb, h1, h2, h3, h4⟩ := h
  have hPl : P.length ≤ 131072 := by
    have := congrArg List.length hxy
    rw [List.length_append, List.length_take, List.length_take] at this
    omega
  have hPb : Byt P := fun z hz => by
    have : z ∈ D.take y := by rw [← hxy]; exact List.mem_append_right _ hz
    exact hD z (List.mem_of_mem_take this)
  have h5 : Ev q W (.pointer none) [] ((g, mst (.pointer none) key (D.take x)) :: (lb ++ [(p7, .cells (VI .u8 (mtag key D)) 36), (q, .cells (VI .u8 key) 23)])) w' := h3.sub (fun p hp => by
    simp only [List.mem_append, List.mem_cons, List.not_mem_nil, or_false] at hp ⊢
    rcases hp with hp | hp | hp | hp
    · exact .inr (.inl hp)
    · exact .inl hp
    · exact .inr (.inr (.inl hp))
    · exact .inr (.inr (.inr hp)))
  refine (mwrite_any h5 (fun p hp => ?_) (by simp; omega) hk (fun z hz => hD z (List.mem_of_mem_take hz)) hPb (hP.sub (by simp))).mono ?_
  · simp only [List.mem_append, List.mem_cons, List.not_mem_nil, or_false] at hp
    rcases hp with hp | rfl | rfl
    · exact (h4 p hp).1
    · exact fun e => hgp e.symm
    · exact fun e => hgq e.symm
  · rintro e w2 ⟨rfl, h6⟩
    rw [hxy] at h6
    refine ⟨rfl, vs, lb, h1, h2, (h6.nilOf []).sub (fun p hp => ?_), h4⟩
    simp only [List.mem_append, List.mem_cons, List.not_mem_nil, or_false] at hp ⊢
    rcases hp with hp | hp | hp | hp
    · exact .inr (.inl hp)
    · exact .inl hp
    · exact .inr (.inr (.inl hp))
    · exact .inr (.inr (.inr hp))
theorem CS.tag {q : Nat} {W : World} {g p7 : Nat} {key D : List Int} {x : Nat} {Ps : List (List Int)} {vl : Value} {w' : World} (h : CS q W g p7 key D x Ps vl w') (hk : Key32 key) (hD : Byt D) :
    Calls Try.prog 13 #[.pointer (some ⟨g, 0, none⟩)] w' fun e w2 => e = .returned (.agg (VI .u8 (mtag key (D.take x)))) ∧ CS q W g p7 key D x Ps vl w2 := by
  obtain ⟨vs, lb, h1, h2, h3, h4⟩ := h
  have h5 : Ev q W (.pointer none) [] ((g, mst (.pointer none) key (D.take x)) :: (lb ++ [(p7, .cells (VI .u8 (mtag key D)) 36), (q, .cells (VI .u8 key) 23)])) w' := h3.sub (fun p hp => by
    simp only [List.mem_append, List.mem_cons, List.not_mem_nil, or_false] at hp ⊢
    rcases hp with hp | hp | hp | hp
    · exact .inr (.inl hp)
    · exact .inl hp
    · exact .inr (.inr (.inl hp))
    · exact .inr (.inr (.inr hp)))
  refine (mtag_any h5 (by decide) hk (fun z hz => hD z (List.mem_of_mem_take hz))).mono ?_
  rintro e w2 ⟨rfl, h6⟩
  refine ⟨rfl, vs, lb, h1, h2, (h6.nilOf []).sub (fun p hp => ?_), h4⟩
  simp only [List.mem_append, List.mem_cons, List.not_mem_nil, or_false] at hp ⊢
  rcases hp with hp | hp | hp | hp
  · exact .inr (.inl hp)
  · exact .inl hp
  · exact .inr (.inr (.inl hp))
  · exact .inr (.inr (.inr hp))
theorem CS.of {q : Nat} {W : World} {g p7 : Nat} {key D : List Int} {x : Nat} {Ps : List (List Int)} {vl : Value} {w' : World} (h : CS q W g p7 key D x Ps vl w') (hk : Key32 key) (hB : BytL Ps) (hn : Ps.length ≤ 1000) (hl : Ps.flatten.length ≤ 131072) :
    Calls Try.prog 24 #[.pointer none, .agg (VI .u8 key), vl] w' fun e w2 => e = .returned (.agg (VI .u8 (mtag key Ps.flatten))) ∧ CS q W g p7 key D x Ps vl w2 := by
  obtain ⟨vs, lb, h1, h2, h3, h4⟩ := h
  obtain ⟨a, cap, rfl, hp⟩ : ∃ a cap, vl = .slice a Ps.length cap ∧ PSrc q W (lb ++ [(g, mst (.pointer none) key (D.take x)), (p7, .cells (VI .u8 (mtag key D)) 36), (q, .cells (VI .u8 key) 23)]) a Ps.length Ps := by
    rcases h1.2 with ⟨e1, e2, _⟩ | ⟨gl, cap, cur, e1, e2, e3, e4, e5, e6⟩
    · exact ⟨none, 0, by rw [e1, e2], rfl, fun j hj => by omega⟩
    · refine ⟨_, cap, e1, rfl, fun j hj => ⟨gl, 0, vs.getD j (.slice none 0 0), rfl, fun Y _ hq => ?_, (h2 j hj).sub (by simp)⟩⟩
      have hrow := hq (gl, .cells cur 30 (0, 0)) (List.mem_append_left _ (by rw [e2]; exact mem0))
      rw [cell_of_row Y _ _ _ _ _ hrow, Nat.zero_add]
      have hjc : j < cur.size := by omega
      have hvl : vs.length = Ps.length := by have := h1.1; omega
      have : vs[j]? = cur[j]? := by
        rw [← e6, List.getElem?_take_of_lt (by omega)]
        simp
      rw [← this, List.getD_eq_getElem?_getD, List.getElem?_eq_getElem (by omega)]
      rfl
  refine (of_any h3 hk hp hB (by simp at hl ⊢; omega)).mono ?_
  rintro e w2 ⟨rfl, h6⟩
  exact ⟨rfl, vs, lb, h1, h2, h6.nilOf [], h4⟩
end Go.Proofs.Ytgfamcadgahiiaa
