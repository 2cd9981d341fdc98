import Derived.Test.YtfkbgodfcnmepabDoorDgH
namespace Go.Proofs.YtfkbgodfcnmepabDoor
set_option linter.unusedSimpArgs false
set_option linter.unusedVariables false
open Go.ChangeShapes Go.WideShapes Go.ChangeAt Go.RowKit Go.Pin Go.Str Go.Dig
theorem info_u8 : (Tryd.prog.info? 5).map (·.size) = some 1 := by kernel_rfl
theorem Ev.flip {B : Nat} {w : World} {rv : Value} {l : List (Int × Int)} {bx : List (Nat × Obj)} {W : World} {p q : Nat × Obj} (h : Ev B w rv l (p :: q :: bx) W) : Ev B w rv l (q :: p :: bx) W := h.sub (fun x hx => by
  simp only [List.mem_cons] at hx ⊢
  rcases hx with h | h | h
  · exact .inr (.inl h)
  · exact .inl h
  · exact .inr (.inr h))
theorem Ev.tail {B : Nat} {w : World} {rv : Value} {l : List (Int × Int)} {bx : List (Nat × Obj)} {W : World} {p : Nat × Obj} (h : Ev B w rv l (p :: bx) W) : Ev B w rv l bx W := h.sub (fun x hx => List.mem_cons_of_mem _ hx)
theorem add_mid (b o j : Nat) : (⟨b, o, none⟩ : Addr).add j = ⟨b, o + j, none⟩ := by unfold Addr.add; split <;> simp_all
theorem run_copyX {W : World} {gd od dl dc gs os sl sc : Nat} {X : List Int} (ty : TypeId) (hn : X.length = Nat.min sl dl) (hs : W.rangeAt gs os (X.map (Value.int .u8))) (ht : W.there gd od X.length) :
    (Builtin.copy_ #[22, 22] ty #[.slice (some ⟨gd, od, none⟩) dl dc, .slice (some ⟨gs, os, none⟩) sl sc]).run Tryd.prog W = .ok (.int .i64 (X.length : Int)) (W.setCells gd od (X.map (Value.int .u8))) := by
  have := run_copy_cells (P := Tryd.prog) W 22 22 ty 5 gd od dl dc ⟨gs, os, none⟩ sl sc (X.map (Value.int .u8)) Tryd.underlying22 info_u8 (by rw [List.length_map]; exact hn)
    (fun j v hv => by rw [add_mid]; exact hs j v hv) (fun j hj => (ht j (by simpa using hj)).1) (fun j hj => (ht j (by simpa using hj)).2) (fun v hv => by
      simp only [List.mem_map] at hv
      obtain ⟨x, _, rfl⟩ := hv
      rfl)
  rw [this, List.length_map]
  rfl
theorem wpList_copy_run {P : Program} (w : World) {ops : Array Oper} {rest : List Oper} {o : Oper} {a : Act} {Q : Exit → Act → World → Prop} (hgd : o.guard = none) (d s : Operand) (t t' : TypeId)
    (ho : o.op = .call { callee := .builtin .copy, args := #[d, s], argTypes := #[t, t'] }) (v u : Value) (hd : a.eval d = v) (hs : a.eval s = u) {v' : Value} {w' : World}
    (hr : (Builtin.copy_ #[t, t'] o.type #[v, u]).run P w = .ok v' w') (h : wpList P ops Q rest (a.put o.dst v') w') : wpList P ops Q (o :: rest) a w :=
  wpList_plain hgd fun _ hK => by
    unfold Oper.wp execOp
    simp only [ho, resolve, invoke, builtin, Sem.run_bind, Sem.run_pure, Result.andThen_ok, List.map_toArray, List.map_cons, List.map_nil, hd, hs, hr]
    exact hK _ _ h
end Go.Proofs.YtfkbgodfcnmepabDoor
