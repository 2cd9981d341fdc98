import Derived.Test.YtfobiejgkdbidabTroA
namespace Go.Proofs.Ytfobiejgkdbidab
set_option linter.unusedSimpArgs false
set_option linter.unusedVariables false
open Go.ChangeShapes Go.WideShapes Go.ChangeAt Go.RowKit Go.Pin
theorem run_app_none {P : Program} (w : World) (t ty e : TypeId) (i : TypeInfo) (ht : P.underlying t = some (.slice e)) (hi : P.info? e = some i) (g n cap : Nat) (hn : n ≤ cap) :
    (Builtin.append_ #[t, t] ty #[.slice (some ⟨g, 0, none⟩) n cap, .slice none 0 0]).run P w = .ok (.slice (some ⟨g, 0, none⟩) n cap) w := by
  simp [Builtin.append_, run_underlying ht, sizeOf, typeInfo, zeroValue, hi, Builtin.lenOf, Question.forced, hn, run_firstCells_none, storeCells]
/-- append of a whole list, which may be none, to a list of one's own that lies somewhere -/
theorem append_list {P : Program} (w : World) {ops : Array Oper} {rest : List Oper} {o : Oper} {a : Act} {Q : Exit → Act → World → Prop} (hgd : o.guard = none) (s x : Operand) (t : TypeId)
    (ho : o.op = .call { callee := .builtin .append, args := #[s, x], argTypes := #[t, t] }) (base : Nat) (e : TypeId) (i : TypeInfo) (z : Value) (size bytes : Nat) (ht : P.underlying t = some (.slice e)) (hi : P.info? e = some i) (hz : i.zero = some z)
    (hsize : i.size = size) (hby : i.bytes = bytes) (hzs : z.cells.size = size) (hsz : 0 < size) (g n cap : Nat) (xs : List Value) (hs : a.eval s = .slice (some ⟨g, 0, none⟩) n cap) (hown : w.ownsRow base e size (.slice (some ⟨g, 0, none⟩) n cap) n xs)
    (u : Value) (m : Nat) (b : Nat) (news : List Value) (hx : a.eval x = u) (hu : w.ownsRow b e size u m news) (h1 : ∀ u ∈ news, u.oneCell' = true)
    (h63 : n + m ≤ maxLen) (hbytes : (n + m) * bytes ≤ 140737488355328) (hbase : base ≤ w.heap.size)
    (h : ∀ v' w', w'.ownsRow base e size v' (n + m) (xs ++ news) → w.grownBy w' (some g) → (v'.ownBlock = some g ∨ v'.ownBlock = some w.heap.size) → wpList P ops Q rest (a.put o.dst v') w') : wpList P ops Q (o :: rest) a w := by
  have hu' := hu
  rcases hu'.2 with ⟨rfl, rfl⟩ | ⟨gu, cu, cur, rfl, _, hgu, _⟩
  · have hnil : news = [] := List.eq_nil_of_length_eq_zero (by rw [hu.1, Nat.zero_mul])
    subst hnil
    have hcap : n ≤ cap := by
      rcases hown.2 with ⟨q, _⟩ | ⟨g', cap', cur', q, _, _, hnc, _⟩
      · cases q
      · cases q; exact hnc
    have hr := run_app_none (P := P) w t o.type e i ht hi g n cap hcap
    refine wpList_plain hgd fun K hK => ?_
    have h6 := hK _ _ (h _ w (by rw [List.append_nil]; exact hown) ⟨rfl, rfl, rfl, Nat.le_refl _, fun _ _ _ => rfl⟩ (.inl rfl))
    unfold Oper.wp execOp
    simp only [ho, hs, hx, hr, resolve, invoke, builtin, List.map_toArray, List.map_cons, List.map_nil, Sem.run_bind, Sem.run_pure, Result.andThen_ok]
    exact h6
  · refine append_own_x w hgd s x t ho base e i z size bytes ht hi hz hsize hby hzs hsz _ n xs hs hown ⟨gu, 0, none⟩ m cu news hx hu.1 (hu.cells rfl) h1 h63 hbytes hbase (fun v' w' k1 k2 _ k4 => h v' w' k1 k2 k4)
end Go.Proofs.Ytfobiejgkdbidab
