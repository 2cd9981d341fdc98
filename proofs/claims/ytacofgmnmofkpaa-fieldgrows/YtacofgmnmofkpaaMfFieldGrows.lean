import Derived.Test.YtacofgmnmofkpaaMfaw
namespace Go.Proofs.Ytacofgmnmofkpaa
set_option linter.unusedSimpArgs false
set_option linter.unusedVariables false
open Go.ChangeShapes Go.WideShapes Go.ChangeAt Go.RowKit Go.Pin Go.Fld
section
open Go.Deep
variable {H : Type} {enc : TypeId × Value → H}
set_option maxRecDepth 100000 in
theorem open_keys {w : World} {base b0 : Nat} {spare : Nat → Bool} {held : Bool} {r : Reach} {v : Value} {d : DataW H} {p : List MemPlace} (hv : Value.okWide Try.prog w r b0 62 v) (h : DataW.Trod enc Try.prog w base spare held 62 v d p) :
    ∃ (cs : Array Value) (f : Nat → List Int), v = .agg cs ∧ cs.size = 256 ∧ ∀ i, i < 8 → Key32 (f i) ∧ ∀ j, j < 32 → cs[i * 32 + j]? = some (.int .u8 ((f i).getD j 0)) := by
  obtain ⟨cs, rfl, hsz⟩ := okWide_array Try.underlying62 hv
  have hcs : cs.size = 256 := hsz.trans (by kernel_rfl)
  obtain ⟨fuel, hf⟩ := h
  obtain ⟨xs, m, _, _, hlen, hxl, hall⟩ := DataW.trod_array Try.underlying62 hf
  have ck : Try.prog.cellsOf 57 = 32 := by kernel_rfl
  have key : ∀ i, i < 8 → ∃ l : List Int, Key32 l ∧ ∀ j, j < 32 → cs[i * 32 + j]? = some (.int .u8 (l.getD j 0)) := by
    intro i hi
    have h1 := hall i hi
    rw [List.getElem?_eq_getElem (by omega), ck] at h1
    obtain ⟨l, hl, ll, wl⟩ := row_of_trod Try.underlying57 Try.underlying5 (by kernel_rfl) (by rw [List.length_take, List.length_drop]; simp [Value.cells, hcs]; omega) h1
    refine ⟨l, key_of ll wl, fun j hj => ?_⟩
    have h3 := congrArg (fun z => z[j]?) hl
    simp only [List.getElem?_map, Value.cells] at h3
    rw [List.getElem?_eq_getElem (show j < l.length by omega)] at h3
    rw [List.getElem?_take, if_pos hj, List.getElem?_drop] at h3
    rw [← Array.getElem?_toList, h3, List.getD_eq_getElem?_getD, List.getElem?_eq_getElem (show j < l.length by omega)]
    rfl
  obtain ⟨f, hf'⟩ := choose_lt key
  exact ⟨cs, f, rfl, hcs, hf'⟩
end

set_option maxRecDepth 100000 in
theorem grows_lifted (os : Os) (started : os.Started) (H : Type) (enc : TypeId × Value → H) :
    ReturnsInHanded {} Try.checked os 5 .any (Rows.fieldGrowsSpec.pre6 enc Try.prog Try.f5 Rows.fieldGrowsRow.domain false) (Rows.fieldGrowsSpec.post enc Try.prog Try.f5 false true false false) := by
  refine returnsInHanded_of_change_sized (C := Try.checked) own started (by kernel_rfl) Try.func5
    (ChangeSpec.witness6 (enc := enc) (C := Try.checked) false ⟨#[], #[.agg (Array.replicate 256 (.int .u8 0)), .slice none 0 0, .int .i64 0], []⟩ 8 (by kernel_rfl) (by kernel_rfl) (by kernel_rfl) (by kernel_rfl)) ?_
  intro W base args ds gs before hval0 hW hcnd hsz0 _
  clear hsz0
  have hval : ∀ (j : Nat) t v, Try.f5.params[j]? = some t → args[j]? = some v → Value.okWide Try.prog W .any base t v := hval0
  have hW' := hW
  obtain ⟨p, q, hA0, hV, rfl, hfz, hnd⟩ := hW
  have hA : DataW.TrodAll enc Try.prog W 0 (fun _ => true) true Try.f5.params.toList args.toList ds p := hA0
  rw [Try.params5] at hA hval
  have hAll := fun W' (hb : Below W.heap.size W W') => trodAll_below laidOut hb _ _ _ _ (by kernel_rfl) hA
  obtain ⟨v0, vs0, d0, ds0, p0, q0, hargs, rfl, rfl, h0, r0⟩ := trodAll_cons hA
  obtain ⟨v1, vs1, d1, ds1, p1, q1, rfl, rfl, rfl, h1, r1⟩ := trodAll_cons r0
  obtain ⟨v2, vs2, d2, ds2, p2, q2, rfl, rfl, rfl, h2, r2⟩ := trodAll_cons r1
  obtain ⟨rfl, rfl, rfl⟩ := trodAll_nil r2
  obtain rfl : args = #[v0, v1, v2] := by cases args; simp_all
  obtain ⟨rfl, rfl⟩ := trodVars_none hV
  obtain ⟨bg, f, rfl, hbs, hbf⟩ := open_keys (hval 0 62 v0 rfl rfl) h0
  obtain ⟨a1, len1, cap1, rfl⟩ := okWide_slice Try.underlying42 (hval 1 42 v1 rfl rfl)
  obtain ⟨z1, rfl, w1⟩ := open_script h1
  obtain ⟨a2, rfl, rfl, rfl, w2⟩ := open_int Try.underlying3 (hval 2 3 v2 rfl rfl) h2
  clear hA0 hval0
  refine (grows_walk bg f _ z1 a2 W hbs hbf w1).mono fun e W' ⟨he, bel⟩ => ?_
  subst he
  exact ⟨_, rfl, _, _, _, [], _, [], hW', trodAll_mk1 (shut_bool Try.underlying4 _), hAll W' bel, rfl, bel.frame _, fun h => by cases h⟩

theorem grows_proved : Rows.FieldGrowsSaid :=
  OpenClaim.holds_of_wide 5 Try.f5 rfl rfl rfl rfl rfl rfl rfl ⟨rfl, rfl, rfl, rfl, rfl⟩ rfl rfl rfl rfl rfl (by kernel_rfl) Try.func5 (by kernel_rfl)
    (of_decide_eq_true (by kernel_rfl)) (by unfold Func.isWrapper; first | (rw [if_pos (by decide +kernel)]; kernel_rfl) | (rw [if_neg (by decide +kernel)]; exact ⟨rfl, rfl⟩))
    (fun os started H enc _ => grows_lifted os started H enc)
end Go.Proofs.Ytacofgmnmofkpaa
