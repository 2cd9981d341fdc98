import Derived.LaidLaws
import Derived.ChangeArms
import Derived.OpenShut
import Derived.Lib.LaidTab
import Derived.Test.YtjhleocpipmklaaDoorTie
import Derived.Test.YtjhleocpipmklaaDoorCards
import Derived.LaidHandle
import Derived.Lay
import Derived.LaidEql
import Derived.SevenTiedAt
import Derived.Test.YtjhleocpipmklaaDoorMiah
/- a package-level table of literals (arrays, structs, numbers, bools, texts): its cells, one behind the other -/
namespace Go.Pin
mutual
def flt (P : Program) : Nat → TypeId → DataW Unit → Option (List Value)
  | 0, _, _ => none
  | f + 1, t, d => match P.underlying t, d with
    | some .bool, .lit (.bool b) => some [.bool b]
    | some (.int k), .lit (.int k' n) => if k' = k then some [.int k n] else none
    | some .string, .lit (.string l) => some [.string ⟨l.toArray⟩]
    | some (.struct fs), .agg ds => match fltF P f 0 fs.toList ds with
      | some c => if c.length = P.cellsOf t then some c else none
      | none => none
    | some (.array n e), .agg ds => if ds.length = n then match fltA P f e ds with
      | some c => if c.length = P.cellsOf t then some c else none
      | none => none
      else none
    | _, _ => none
def fltF (P : Program) : Nat → Nat → List Field → List (DataW Unit) → Option (List Value)
  | 0, _, _, _ => none
  | _ + 1, _, [], [] => some []
  | f + 1, o, x :: fs, d :: ds => if x.offset = o then match flt P f x.type d with
      | none => none
      | some c => if c.length = P.cellsOf x.type then (fltF P f (o + c.length) fs ds).map (c ++ ·) else none
    else none
  | _ + 1, _, _, _ => none
def fltA (P : Program) : Nat → TypeId → List (DataW Unit) → Option (List Value)
  | 0, _, _ => none
  | _ + 1, _, [] => some []
  | f + 1, e, d :: ds => match flt P f e d with
      | none => none
      | some c => if c.length = P.cellsOf e then (fltA P f e ds).map (c ++ ·) else none
end
theorem piece {cs c r : List Value} {o k : Nat} (_ : c.length = k) (h1 : (cs.drop o).take k = c) (h2 : cs.drop (o + k) = r) : cs.drop o = c ++ r := by
  rw [← List.take_append_drop k (cs.drop o), h1, List.drop_drop, h2]
variable {P : Program} {w : World} {base : Nat} {sp : Nat → Bool} {held : Bool} {enc : TypeId × Value → Unit}
/-- what is read as a table of literals is their cells -/
theorem flt_all (f : Nat) : (∀ (m : Nat) (t : TypeId) (d : DataW Unit) (cs c : List Value) (p : List MemPlace), flt P f t d = some c → DataW.trod enc P w base sp held m t cs = some (d, p) → cs = c) ∧
    (∀ (m o : Nat) (fs : List Field) (ds : List (DataW Unit)) (cs c : List Value) (xs : List (DataW Unit × List MemPlace)), fltF P f o fs ds = some c → (∀ (i : Nat) (x : Field), fs[i]? = some x → DataW.trod enc P w base sp held m x.type ((cs.drop x.offset).take (P.cellsOf x.type)) = xs[i]?) → xs.map (·.1) = ds → cs.length = o + c.length → cs.drop o = c) ∧
    (∀ (m o : Nat) (e : TypeId) (ds : List (DataW Unit)) (cs c : List Value) (xs : List (DataW Unit × List MemPlace)), fltA P f e ds = some c → (∀ (i : Nat), i < ds.length → DataW.trod enc P w base sp held m e ((cs.drop ((o + i) * P.cellsOf e)).take (P.cellsOf e)) = xs[i]?) → xs.map (·.1) = ds → cs.length = o * P.cellsOf e + c.length → cs.drop (o * P.cellsOf e) = c) := by
  induction f with
  | zero =>
    refine ⟨fun m t d cs c p h => ?_, fun m o fs ds cs c xs h => ?_, fun m o e ds cs c xs h => ?_⟩
    · simp [flt] at h
    · simp [fltF] at h
    · simp [fltA] at h
  | succ f ih =>
    obtain ⟨ih1, ih2, ih3⟩ := ih
    refine ⟨fun m t d cs c p h h' => ?_, fun m o fs ds cs c xs h h' hx hl => ?_, fun m o e ds cs c xs h h' hx hl => ?_⟩
    · unfold flt at h
      split at h
      · rename_i hu
        obtain ⟨b, rfl, e⟩ := DataW.trod_bool hu h'
        injection e with e
        injection e with e
        injection e with e
        injection h with h
        rw [← h, e]
      · rename_i hu
        obtain ⟨z, rfl, e, _⟩ := DataW.trod_int hu h'
        injection e with e
        injection e with e
        injection e with e1 e2
        split at h
        · injection h with h
          rw [← h, e2]
        · rename_i hne
          exact absurd e1 hne
      · rename_i hu
        obtain ⟨s, rfl, e, _⟩ := DataW.trod_string hu h'
        injection e with e
        injection e with e
        injection e with e
        injection h with h
        rw [← h, e]
      · rename_i fs ds hu
        obtain ⟨xs, n, rfl, e, hl, _, hx⟩ := DataW.trod_struct hu h'
        injection e with e _
        injection e with e
        split at h
        · rename_i c' hc
          split at h
          · rename_i hlc
            injection h with h
            subst h
            have := ih2 n 0 fs.toList ds cs c' xs hc (fun i x hi => hx i x (by simpa using hi)) e.symm (by omega)
            simpa using this
          · simp at h
        · simp at h
      · rename_i n e0 ds hu
        obtain ⟨xs, m', rfl, e, hl, hxl, hx⟩ := DataW.trod_array hu h'
        injection e with e _
        injection e with e
        split at h
        · rename_i hdn
          split at h
          · rename_i c' hc
            split at h
            · rename_i hlc
              injection h with h
              subst h
              have := ih3 m' 0 e0 ds cs c' xs hc (fun i hi => by rw [Nat.zero_add]; exact hx i (by omega)) e.symm (by omega)
              simpa using this
            · simp at h
          · simp at h
        · simp at h
      · simp at h
    · cases fs with
      | nil =>
        cases ds with
        | nil =>
          simp only [fltF, Option.some.injEq] at h
          subst h
          exact List.drop_eq_nil_of_le (by simp at hl; omega)
        | cons d ds => simp [fltF] at h
      | cons x fs =>
        cases ds with
        | nil => simp [fltF] at h
        | cons d ds =>
          simp only [fltF] at h
          split at h
          · rename_i ho
            cases hc : flt P f x.type d with
            | none => rw [hc] at h; simp at h
            | some c1 =>
              rw [hc] at h
              simp only at h
              split at h
              · rename_i hk
                simp only [Option.map_eq_some_iff] at h
                obtain ⟨c2, h2, rfl⟩ := h
                cases xs with
                | nil => simp at hx
                | cons y ys =>
                  obtain ⟨y1, y2⟩ := y
                  simp only [List.map_cons, List.cons.injEq] at hx
                  obtain ⟨hy1, hys⟩ := hx
                  have h0 := h' 0 x rfl
                  rw [List.getElem?_cons_zero, hy1] at h0
                  have e1 := ih1 m x.type d _ c1 y2 hc h0
                  rw [ho] at e1
                  have e2 := ih2 m (o + c1.length) fs ds cs c2 ys h2 (fun i z hi => by have := h' (i + 1) z (by simpa using hi); simpa using this) hys (by rw [List.length_append] at hl; omega)
                  exact piece hk e1 (by rw [← hk]; exact e2)
              · simp at h
          · simp at h
    · cases ds with
      | nil =>
        simp only [fltA, Option.some.injEq] at h
        subst h
        exact List.drop_eq_nil_of_le (by simp at hl; omega)
      | cons d ds =>
        simp only [fltA] at h
        cases hc : flt P f e d with
        | none => rw [hc] at h; simp at h
        | some c1 =>
          rw [hc] at h
          simp only at h
          split at h
          · rename_i hk
            simp only [Option.map_eq_some_iff] at h
            obtain ⟨c2, h2, rfl⟩ := h
            cases xs with
            | nil => simp at hx
            | cons y ys =>
              obtain ⟨y1, y2⟩ := y
              simp only [List.map_cons, List.cons.injEq] at hx
              obtain ⟨hy1, hys⟩ := hx
              have h0 := h' 0 (by simp)
              rw [List.getElem?_cons_zero, hy1, Nat.add_zero] at h0
              have e1 := ih1 m e d _ c1 y2 hc h0
              have e2 := ih3 m (o + 1) e ds cs c2 ys h2 (fun i hi => by have := h' (i + 1) (by simp; omega); rw [show o + (i + 1) = o + 1 + i by omega] at this; simpa using this) hys (by rw [List.length_append] at hl; rw [Nat.add_mul, Nat.one_mul]; omega)
              rw [Nat.add_mul, Nat.one_mul] at e2
              exact piece hk e1 e2
          · simp at h
theorem cells_of_flt {f m : Nat} {t : TypeId} {d : DataW Unit} {cs c : List Value} {p : List MemPlace} (h : flt P f t d = some c) (h' : DataW.trod enc P w base sp held m t cs = some (d, p)) : cs = c := (flt_all f).1 m t d cs c p h h'
end Go.Pin
namespace Go.Proofs.YtjhleocpipmklaaDoor
set_option linter.unusedSimpArgs false
set_option linter.unusedVariables false
open Go.ChangeShapes Go.WideShapes Go.ChangeAt Go.RowKit Go.Pin Go.Pat Go.Deep
theorem own : ownKnob Tryd.prog.godebug = none := by kernel_rfl
theorem laidOut : laidOutB Tryd.prog = true := by kernel_rfl
def laidV : List (String × DataW Unit) := [("pintle/api.ErrArg", Rows.laid_pintle_api_ErrArg), ("pintle/api.ErrText", Rows.laid_pintle_api_ErrText), ("pintle/api.ErrInvalid", Rows.laid_pintle_api_ErrInvalid), ("pintle/api.ErrTwice", Rows.laid_pintle_api_ErrTwice), ("pintle/api.ErrLacks", Rows.laid_pintle_api_ErrLacks), ("pintle/api.ErrUnsafe", Rows.laid_pintle_api_ErrUnsafe), ("pintle/pattern.rules", Rows.laid_pintle_pattern_rules), ("pintle/pattern.hazards", Rows.laid_pintle_pattern_hazards), ("pintle/pattern.heads", Rows.laid_pintle_pattern_heads), ("pintle/pattern.tokenWords", Rows.laid_pintle_pattern_tokenWords)]
theorem g_1 : Tryd.prog.globalNamed "pintle/api.ErrArg" = some (0) := by kernel_rfl
theorem t_1 : (Tryd.prog.globals[0]?).map (·.type) = some 32 := by kernel_rfl
theorem g_8 : Tryd.prog.globalNamed "pintle/api.ErrText" = some (7) := by kernel_rfl
theorem t_8 : (Tryd.prog.globals[7]?).map (·.type) = some 32 := by kernel_rfl
theorem g_9 : Tryd.prog.globalNamed "pintle/api.ErrInvalid" = some (1) := by kernel_rfl
theorem t_9 : (Tryd.prog.globals[1]?).map (·.type) = some 32 := by kernel_rfl
theorem g_10 : Tryd.prog.globalNamed "pintle/api.ErrTwice" = some (2) := by kernel_rfl
theorem t_10 : (Tryd.prog.globals[2]?).map (·.type) = some 32 := by kernel_rfl
theorem g_11 : Tryd.prog.globalNamed "pintle/api.ErrLacks" = some (3) := by kernel_rfl
theorem t_11 : (Tryd.prog.globals[3]?).map (·.type) = some 32 := by kernel_rfl
theorem g_12 : Tryd.prog.globalNamed "pintle/api.ErrUnsafe" = some (4) := by kernel_rfl
theorem t_12 : (Tryd.prog.globals[4]?).map (·.type) = some 32 := by kernel_rfl
theorem g_rules : Tryd.prog.globalNamed "pintle/pattern.rules" = some (5) := by kernel_rfl
theorem t_rules : (Tryd.prog.globals[5]?).map (·.type) = some 100 := by kernel_rfl
def c_rules : List Value := [.int .i64 0, .int .i64 0, .bool false, .bool false, .bool false, .bool false, .bool false, .bool false, .bool false, .bool false, .bool false, .bool false, .int .i64 0, .int .i64 2, .bool true, .bool false, .bool false, .bool false, .bool false, .bool false, .bool false, .bool false, .bool false, .bool false, .int .i64 1, .int .i64 3, .bool true, .bool false, .bool false, .bool false, .bool false, .bool false, .bool false, .bool false, .bool false, .bool false, .int .i64 4, .int .i64 4, .bool true, .bool true, .bool false, .bool true, .bool false, .bool false, .bool false, .bool false, .bool false, .bool false, .int .i64 5, .int .i64 5, .bool true, .bool true, .bool false, .bool false, .bool true, .bool false, .bool false, .bool false, .bool false, .bool false, .int .i64 6, .int .i64 6, .bool true, .bool false, .bool true, .bool true, .bool false, .bool false, .bool false, .bool false, .bool false, .bool false, .int .i64 7, .int .i64 7, .bool true, .bool false, .bool true, .bool false, .bool true, .bool false, .bool false, .bool false, .bool false, .bool false, .int .i64 8, .int .i64 8, .bool false, .bool false, .bool false, .bool false, .bool false, .bool false, .bool false, .bool false, .bool false, .bool false]
theorem f_rules : flt Tryd.prog 40 100 Rows.laid_pintle_pattern_rules = some c_rules := by kernel_rfl
theorem g_hazards : Tryd.prog.globalNamed "pintle/pattern.hazards" = some (6) := by kernel_rfl
theorem t_hazards : (Tryd.prog.globals[6]?).map (·.type) = some 104 := by kernel_rfl
def c_hazards : List Value := [.int .i64 0, .bool false, .bool false, .bool false, .bool false, .bool true, .bool false, .bool true, .bool false, .bool false, .bool false, .bool false, .bool false, .bool false, .bool false, .bool false, .bool true, .bool false, .bool false, .int .i64 0, .bool false, .bool false, .bool false, .bool false, .bool false, .bool true, .bool false, .bool true, .bool false, .bool false, .bool false, .bool false, .bool false, .bool false, .bool false, .bool false, .bool true, .bool false, .int .i64 0, .bool true, .bool false, .bool false, .bool false, .bool false, .bool false, .bool false, .bool false, .bool true, .bool false, .bool false, .bool false, .bool false, .bool false, .bool false, .bool false, .bool false, .bool true, .int .i64 1, .bool false, .bool false, .bool false, .bool false, .bool true, .bool true, .bool false, .bool false, .bool false, .bool false, .bool false, .bool false, .bool false, .bool false, .bool true, .bool false, .bool false, .bool false, .int .i64 1, .bool false, .bool false, .bool false, .bool false, .bool false, .bool false, .bool true, .bool true, .bool false, .bool false, .bool false, .bool false, .bool false, .bool false, .bool false, .bool false, .bool true, .bool false, .int .i64 1, .bool false, .bool false, .bool true, .bool false, .bool false, .bool false, .bool false, .bool false, .bool true, .bool false, .bool false, .bool false, .bool false, .bool false, .bool false, .bool false, .bool false, .bool true]
theorem f_hazards : flt Tryd.prog 40 104 Rows.laid_pintle_pattern_hazards = some c_hazards := by kernel_rfl
theorem g_heads : Tryd.prog.globalNamed "pintle/pattern.heads" = some (9) := by kernel_rfl
theorem t_heads : (Tryd.prog.globals[9]?).map (·.type) = some 166 := by kernel_rfl
def c_heads : List Value := [.string ⟨#[32, 32, 45, 62, 32]⟩, .string ⟨#[32, 32, 60, 45, 32]⟩]
theorem f_heads : flt Tryd.prog 40 166 Rows.laid_pintle_pattern_heads = some c_heads := by kernel_rfl
theorem g_tokenWords : Tryd.prog.globalNamed "pintle/pattern.tokenWords" = some (10) := by kernel_rfl
theorem t_tokenWords : (Tryd.prog.globals[10]?).map (·.type) = some 172 := by kernel_rfl
def c_tokenWords : List Value := [.string ⟨#[]⟩, .string ⟨#[101]⟩, .string ⟨#[115]⟩, .string ⟨#[101, 101]⟩, .string ⟨#[101, 115]⟩, .string ⟨#[115, 101]⟩, .string ⟨#[115, 115]⟩, .string ⟨#[112, 115, 107]⟩]
theorem f_tokenWords : flt Tryd.prog 40 172 Rows.laid_pintle_pattern_tokenWords = some c_tokenWords := by kernel_rfl
theorem star : ("*errors.errorString" : String) = "*" ++ "errors.errorString" := by decide
theorem row_err : ∀ u, Tryd.prog.typeName? 3 u = some "*errors.errorString" → u = 173 := fun u h =>
  typeName_ptr_named (nm := "errors.errorString") (by rw [← star]; kernel_rfl) (by kernel_rfl) (by decide) u (by rw [← star]; exact h)
/-- where an error's variable lies -/
def eblk : Int → Nat
  | 1 => 0
  | 8 => 7
  | 9 => 1
  | 10 => 2
  | 11 => 3
  | 12 => 4
  | _ => 0
def emsg : Int → List UInt8
  | 1 => [112, 105, 110, 116, 108, 101, 58, 32, 97, 114, 103, 117, 109, 101, 110, 116]
  | 8 => [112, 105, 110, 116, 108, 101, 58, 32, 110, 111, 32, 112, 97, 116, 116, 101, 114, 110]
  | 9 => [112, 105, 110, 116, 108, 101, 58, 32, 112, 97, 116, 116, 101, 114, 110, 32, 105, 110, 118, 97, 108, 105, 100]
  | 10 => [112, 105, 110, 116, 108, 101, 58, 32, 116, 119, 105, 99, 101]
  | 11 => [112, 105, 110, 116, 108, 101, 58, 32, 108, 97, 99, 107, 115]
  | 12 => [112, 105, 110, 116, 108, 101, 58, 32, 117, 110, 115, 97, 102, 101]
  | _ => []
def ecs : List Int := [1, 8, 9, 10, 11, 12]
/-- the program's tables -/
structure Tabs (W : World) : Prop where
  rules : W.rangeAt 5 0 c_rules
  hazards : W.rangeAt 6 0 c_hazards
  heads : W.rangeAt 9 0 c_heads
  tokenWords : W.rangeAt 10 0 c_tokenWords
/-- the errors' variables, and where they point; the tables -/
def Errs (ea : Int → Addr) (W : World) : Prop := (∀ c ∈ ecs, W.cell? ⟨eblk c, 0, none⟩ = some (.iface 173 (.pointer (some (ea c)))) ∧ (∃ s : ByteArray, W.cell? (ea c) = some (.string s) ∧ s.data.toList = emsg c) ∧ ∃ ca ta, W.heap[(ea c).block]? = some (.cells ca ta (0, 0))) ∧ Tabs W
theorem Errs.inj {ea : Int → Addr} {W : World} (h : Errs ea W) : ∀ c ∈ ecs, ∀ d ∈ ecs, ea c = ea d → c = d := fun c hc d hd e => by
  obtain ⟨_, ⟨s, h1, h2⟩, _⟩ := h.1 c hc
  obtain ⟨_, ⟨t, h3, h4⟩, _⟩ := h.1 d hd
  rw [e, h3] at h1
  injection h1 with h1
  injection h1 with h1
  subst h1
  have : emsg c = emsg d := h2.symm.trans h4
  revert this
  have key : ∀ c ∈ ecs, ∀ d ∈ ecs, emsg c = emsg d → c = d := by decide
  exact key c hc d hd
theorem info_some {P : Program} {t : TypeId} {α : Type} {f : TypeInfo → α} {x : α} (h : (P.info? t).map f = some x) : ∃ i, P.info? t = some i ∧ f i = x := Option.map_eq_some_iff.1 h
theorem cellA_below {w W : World} {a : Addr} {v : Value} (hb : Below w.heap.size w W) (h : w.cell? a = some v) : W.cell? a = some v := by
  rw [World.cell?_of_block (hb.block a.block (World.block_lt_of_cell? w _ h))]
  exact h
theorem Tabs.below {w W : World} (h : Tabs w) (hb : Below w.heap.size w W) : Tabs W := ⟨fun n v hn => cellA_below hb (h.rules n v hn), fun n v hn => cellA_below hb (h.hazards n v hn), fun n v hn => cellA_below hb (h.heads n v hn), fun n v hn => cellA_below hb (h.tokenWords n v hn)⟩
theorem Errs.below {ea : Int → Addr} {w W : World} (h : Errs ea w) (hb : Below w.heap.size w W) : Errs ea W := by
  refine ⟨fun c hc => ?_, h.2.below hb⟩
  obtain ⟨h1, ⟨s, h2, h3⟩, ca, ta, h4⟩ := h.1 c hc
  exact ⟨cellA_below hb h1, ⟨s, cellA_below hb h2, h3⟩, ca, ta, (hb.block _ (Array.getElem?_eq_some_iff.1 h4).1).trans h4⟩
theorem eq_err {ea : Int → Addr} {W : World} (h : Errs ea W) {c d : Int} (hc : c ∈ ecs) (hd : d ∈ ecs) : (binOp .eql 32 (.iface 173 (.pointer (some (ea c)))) (.iface 173 (.pointer (some (ea d))))).run Tryd.prog W = .ok (.bool (decide (c = d))) W := by
  obtain ⟨i, hi, hcm⟩ := info_some (P := Tryd.prog) (t := 173) (f := (·.comparable)) (x := true) (by kernel_rfl)
  obtain ⟨j, hj, hjs⟩ := info_some (P := Tryd.prog) (t := 187) (f := (·.size)) (x := 1) (by kernel_rfl)
  by_cases e : c = d
  · subst e
    rw [decide_eq_true rfl]
    exact run_eql_iface_ptr_same W (ea c) Tryd.underlying32 Tryd.underlying173 hi hcm hj
  · rw [decide_eq_false e]
    obtain ⟨_, _, ca, ta, h1⟩ := h.1 c hc
    obtain ⟨_, _, cb, tb, h2⟩ := h.1 d hd
    exact run_eql_iface_ptr_other W Tryd.underlying32 Tryd.underlying173 hi hcm hj (by rw [hjs]; decide) (fun e' => e (h.inj c hc d hd e')) h1 h2
/-- an error as a value -/
def EV (ea : Int → Addr) (c : Int) : Value := if c = 0 then .nilIface else .iface 173 (.pointer (some (ea c)))
set_option maxRecDepth 100000 in
theorem errs_of_laid {W : World} (h0 : laidMetH Tryd.prog laidV W) : ∃ ea, Errs ea W := by
  have h : laidMet Tryd.prog laidV W := h0
  obtain ⟨ps, ⟨g0, t0, cs0, f0, p0, q0, hg0, ht0, hv0, hd0, ⟨g1, t1, cs1, f1, p1, q1, hg1, ht1, hv1, hd1, ⟨g2, t2, cs2, f2, p2, q2, hg2, ht2, hv2, hd2, ⟨g3, t3, cs3, f3, p3, q3, hg3, ht3, hv3, hd3, ⟨g4, t4, cs4, f4, p4, q4, hg4, ht4, hv4, hd4, ⟨g5, t5, cs5, f5, p5, q5, hg5, ht5, hv5, hd5, ⟨g6, t6, cs6, f6, p6, q6, hg6, ht6, hv6, hd6, ⟨g7, t7, cs7, f7, p7, q7, hg7, ht7, hv7, hd7, ⟨g8, t8, cs8, f8, p8, q8, hg8, ht8, hv8, hd8, ⟨g9, t9, cs9, f9, p9, q9, hg9, ht9, hv9, hd9, hqz, e9⟩, e8⟩, e7⟩, e6⟩, e5⟩, e4⟩, e3⟩, e2⟩, e1⟩, e0⟩, hnd, hrows⟩ := h
  obtain rfl := Option.some.inj (g_1.symm.trans hg0)
  obtain rfl := Option.some.inj (t_1.symm.trans ht0)
  obtain rfl := Option.some.inj (g_8.symm.trans hg1)
  obtain rfl := Option.some.inj (t_8.symm.trans ht1)
  obtain rfl := Option.some.inj (g_9.symm.trans hg2)
  obtain rfl := Option.some.inj (t_9.symm.trans ht2)
  obtain rfl := Option.some.inj (g_10.symm.trans hg3)
  obtain rfl := Option.some.inj (t_10.symm.trans ht3)
  obtain rfl := Option.some.inj (g_11.symm.trans hg4)
  obtain rfl := Option.some.inj (t_11.symm.trans ht4)
  obtain rfl := Option.some.inj (g_12.symm.trans hg5)
  obtain rfl := Option.some.inj (t_12.symm.trans ht5)
  obtain rfl := Option.some.inj (g_rules.symm.trans hg6)
  obtain rfl := Option.some.inj (t_rules.symm.trans ht6)
  obtain rfl := Option.some.inj (g_hazards.symm.trans hg7)
  obtain rfl := Option.some.inj (t_hazards.symm.trans ht7)
  obtain rfl := Option.some.inj (g_heads.symm.trans hg8)
  obtain rfl := Option.some.inj (t_heads.symm.trans ht8)
  obtain rfl := Option.some.inj (g_tokenWords.symm.trans hg9)
  obtain rfl := Option.some.inj (t_tokenWords.symm.trans ht9)
  have hqz' : q9 = [] := hqz
  subst hqz'
  subst e9
  subst e8
  subst e7
  subst e6
  subst e5
  subst e4
  subst e3
  subst e2
  subst e1
  subst e0
  obtain ⟨l6⟩ := cs6
  obtain rfl : l6 = c_rules := cells_of_flt f_rules hd6
  have y6 : W.rangeAt 5 0 c_rules := fun n v hn => by
    have := World.var?_cell hg6 hv6 n
    rw [Nat.zero_add, this, ← hn]
    simp
  obtain ⟨l7⟩ := cs7
  obtain rfl : l7 = c_hazards := cells_of_flt f_hazards hd7
  have y7 : W.rangeAt 6 0 c_hazards := fun n v hn => by
    have := World.var?_cell hg7 hv7 n
    rw [Nat.zero_add, this, ← hn]
    simp
  obtain ⟨l8⟩ := cs8
  obtain rfl : l8 = c_heads := cells_of_flt f_heads hd8
  have y8 : W.rangeAt 9 0 c_heads := fun n v hn => by
    have := World.var?_cell hg8 hv8 n
    rw [Nat.zero_add, this, ← hn]
    simp
  obtain ⟨l9⟩ := cs9
  obtain rfl : l9 = c_tokenWords := cells_of_flt f_tokenWords hd9
  have y9 : W.rangeAt 10 0 c_tokenWords := fun n v hn => by
    have := World.var?_cell hg9 hv9 n
    rw [Nat.zero_add, this, ← hn]
    simp
  obtain ⟨l0⟩ := cs0
  have ok0 : ∀ u v, l0 = [.iface u v] → Value.okWide Tryd.prog W .any 0 u v := fun u v e => by
    subst e
    exact (hrows (0) 0 (by simp [MemPlace.row])).2 u v (by simpa using World.var?_cell hg0 hv0 0)
  obtain ⟨a0, s0, rfl, hc0, hs0, hz0, rfl⟩ := errorString_of_trod Tryd.underlying32 row_err Tryd.underlying173 Tryd.underlying187 rfl rfl Tryd.underlying9 (by kernel_rfl) (by kernel_rfl) hd0 ok0
  have x0 : W.cell? ⟨0, 0, none⟩ = some (.iface 173 (.pointer (some a0))) := by simpa using World.var?_cell hg0 hv0 0
  obtain ⟨l1⟩ := cs1
  have ok1 : ∀ u v, l1 = [.iface u v] → Value.okWide Tryd.prog W .any 0 u v := fun u v e => by
    subst e
    exact (hrows (7) 0 (by simp [MemPlace.row])).2 u v (by simpa using World.var?_cell hg1 hv1 0)
  obtain ⟨a1, s1, rfl, hc1, hs1, hz1, rfl⟩ := errorString_of_trod Tryd.underlying32 row_err Tryd.underlying173 Tryd.underlying187 rfl rfl Tryd.underlying9 (by kernel_rfl) (by kernel_rfl) hd1 ok1
  have x1 : W.cell? ⟨7, 0, none⟩ = some (.iface 173 (.pointer (some a1))) := by simpa using World.var?_cell hg1 hv1 0
  obtain ⟨l2⟩ := cs2
  have ok2 : ∀ u v, l2 = [.iface u v] → Value.okWide Tryd.prog W .any 0 u v := fun u v e => by
    subst e
    exact (hrows (1) 0 (by simp [MemPlace.row])).2 u v (by simpa using World.var?_cell hg2 hv2 0)
  obtain ⟨a2, s2, rfl, hc2, hs2, hz2, rfl⟩ := errorString_of_trod Tryd.underlying32 row_err Tryd.underlying173 Tryd.underlying187 rfl rfl Tryd.underlying9 (by kernel_rfl) (by kernel_rfl) hd2 ok2
  have x2 : W.cell? ⟨1, 0, none⟩ = some (.iface 173 (.pointer (some a2))) := by simpa using World.var?_cell hg2 hv2 0
  obtain ⟨l3⟩ := cs3
  have ok3 : ∀ u v, l3 = [.iface u v] → Value.okWide Tryd.prog W .any 0 u v := fun u v e => by
    subst e
    exact (hrows (2) 0 (by simp [MemPlace.row])).2 u v (by simpa using World.var?_cell hg3 hv3 0)
  obtain ⟨a3, s3, rfl, hc3, hs3, hz3, rfl⟩ := errorString_of_trod Tryd.underlying32 row_err Tryd.underlying173 Tryd.underlying187 rfl rfl Tryd.underlying9 (by kernel_rfl) (by kernel_rfl) hd3 ok3
  have x3 : W.cell? ⟨2, 0, none⟩ = some (.iface 173 (.pointer (some a3))) := by simpa using World.var?_cell hg3 hv3 0
  obtain ⟨l4⟩ := cs4
  have ok4 : ∀ u v, l4 = [.iface u v] → Value.okWide Tryd.prog W .any 0 u v := fun u v e => by
    subst e
    exact (hrows (3) 0 (by simp [MemPlace.row])).2 u v (by simpa using World.var?_cell hg4 hv4 0)
  obtain ⟨a4, s4, rfl, hc4, hs4, hz4, rfl⟩ := errorString_of_trod Tryd.underlying32 row_err Tryd.underlying173 Tryd.underlying187 rfl rfl Tryd.underlying9 (by kernel_rfl) (by kernel_rfl) hd4 ok4
  have x4 : W.cell? ⟨3, 0, none⟩ = some (.iface 173 (.pointer (some a4))) := by simpa using World.var?_cell hg4 hv4 0
  obtain ⟨l5⟩ := cs5
  have ok5 : ∀ u v, l5 = [.iface u v] → Value.okWide Tryd.prog W .any 0 u v := fun u v e => by
    subst e
    exact (hrows (4) 0 (by simp [MemPlace.row])).2 u v (by simpa using World.var?_cell hg5 hv5 0)
  obtain ⟨a5, s5, rfl, hc5, hs5, hz5, rfl⟩ := errorString_of_trod Tryd.underlying32 row_err Tryd.underlying173 Tryd.underlying187 rfl rfl Tryd.underlying9 (by kernel_rfl) (by kernel_rfl) hd5 ok5
  have x5 : W.cell? ⟨4, 0, none⟩ = some (.iface 173 (.pointer (some a5))) := by simpa using World.var?_cell hg5 hv5 0
  refine ⟨fun c => if c = 1 then a0 else if c = 8 then a1 else if c = 9 then a2 else if c = 10 then a3 else if c = 11 then a4 else if c = 12 then a5 else a0, fun c hc => ?_, ⟨y6, y7, y8, y9⟩⟩
  simp only [ecs, List.mem_cons, List.not_mem_nil, or_false] at hc
  rcases hc with rfl | rfl | rfl | rfl | rfl | rfl
  · exact ⟨x0, ⟨s0, hc0, hs0⟩, (hrows a0.block a0.off (by simp [MemPlace.row])).1⟩
  · exact ⟨x1, ⟨s1, hc1, hs1⟩, (hrows a1.block a1.off (by simp [MemPlace.row])).1⟩
  · exact ⟨x2, ⟨s2, hc2, hs2⟩, (hrows a2.block a2.off (by simp [MemPlace.row])).1⟩
  · exact ⟨x3, ⟨s3, hc3, hs3⟩, (hrows a3.block a3.off (by simp [MemPlace.row])).1⟩
  · exact ⟨x4, ⟨s4, hc4, hs4⟩, (hrows a4.block a4.off (by simp [MemPlace.row])).1⟩
  · exact ⟨x5, ⟨s5, hc5, hs5⟩, (hrows a5.block a5.off (by simp [MemPlace.row])).1⟩
end Go.Proofs.YtjhleocpipmklaaDoor
namespace Go.Proofs.YtjhleocpipmklaaDoor
set_option linter.unusedSimpArgs false
set_option linter.unusedVariables false
open Go.ChangeShapes Go.WideShapes Go.ChangeAt Go.RowKit Go.Pin Go.Pat Go.Deep
set_option maxRecDepth 100000 in
set_option maxHeartbeats 4000000 in
theorem code_any {ea : Int → Addr} {W : World} (h : Errs ea W) (c : Int) (hc : c = 0 ∨ c = 1 ∨ c = 9 ∨ c = 10 ∨ c = 11 ∨ c = 12) :
    Calls Tryd.prog 13 #[EV ea c] W fun e w' => e = .returned (.int .i64 c) ∧ w' = W := by
  have q := fun (c d : Int) (hc : c ∈ ecs) (hd : d ∈ ecs) => eq_err h hc hd
  have k1 := (h.1 1 (by decide)).1
  have k9 := (h.1 9 (by decide)).1
  have k10 := (h.1 10 (by decide)).1
  have k11 := (h.1 11 (by decide)).1
  have k12 := (h.1 12 (by decide)).1
  simp only [eblk] at k1 k9 k10 k11 k12
  rcases hc with rfl | rfl | rfl | rfl | rfl | rfl
  · simp only [EV, if_true]
    clear q
    go_enter Tryd.func13, Tryd.ntmps13
    go_wp2
    go_ret
    exact ⟨rfl, rfl⟩
  · simp only [EV, show ¬ ((1 : Int) = 0) by decide, if_false]
    have q1 := q 1 1 (by decide) (by decide)
    clear q
    go_enter Tryd.func13, Tryd.ntmps13
    go_wp2
    go_ret
    exact ⟨rfl, rfl⟩
  · simp only [EV, show ¬ ((9 : Int) = 0) by decide, if_false]
    have q1 := q 9 1 (by decide) (by decide)
    have q9 := q 9 9 (by decide) (by decide)
    clear q
    go_enter Tryd.func13, Tryd.ntmps13
    go_wp2
    go_ret
    exact ⟨rfl, rfl⟩
  · simp only [EV, show ¬ ((10 : Int) = 0) by decide, if_false]
    have q1 := q 10 1 (by decide) (by decide)
    have q9 := q 10 9 (by decide) (by decide)
    have q10 := q 10 10 (by decide) (by decide)
    clear q
    go_enter Tryd.func13, Tryd.ntmps13
    go_wp2
    go_ret
    exact ⟨rfl, rfl⟩
  · simp only [EV, show ¬ ((11 : Int) = 0) by decide, if_false]
    have q1 := q 11 1 (by decide) (by decide)
    have q9 := q 11 9 (by decide) (by decide)
    have q10 := q 11 10 (by decide) (by decide)
    have q11 := q 11 11 (by decide) (by decide)
    clear q
    go_enter Tryd.func13, Tryd.ntmps13
    go_wp2
    go_ret
    exact ⟨rfl, rfl⟩
  · simp only [EV, show ¬ ((12 : Int) = 0) by decide, if_false]
    have q1 := q 12 1 (by decide) (by decide)
    have q9 := q 12 9 (by decide) (by decide)
    have q10 := q 12 10 (by decide) (by decide)
    have q11 := q 12 11 (by decide) (by decide)
    have q12 := q 12 12 (by decide) (by decide)
    clear q
    go_enter Tryd.func13, Tryd.ntmps13
    go_wp2
    go_ret
    exact ⟨rfl, rfl⟩
def is3 (a b c t : Int) : Bool := t == a || t == b || t == c
def h3 (p : Pt) (k : Nat) (a b c : Int) : Bool := (p.ln.take (k + 1)).any fun l => l.2.any (is3 a b c)
theorem any_takeF (C : List Int) (f : Int → Bool) (i : Nat) (h : i < C.length) : (C.take (i + 1)).any f = ((C.take i).any f || f (C.getD i 0)) := by
  rw [List.take_add_one, List.any_append, List.getElem?_eq_getElem h]
  simp [List.getD, h]
theorem h3_one (p : Pt) (k : Nat) (a : Int) : h3 p k a a a = dn p k a := by
  unfold h3 dn
  congr 1
  funext l
  congr 1
  funext t
  simp [is3]
theorem any_or {α : Type} (L : List α) (f g : α → Bool) : (L.any fun x => f x || g x) = (L.any f || L.any g) := by
  induction L with
  | nil => rfl
  | cons x r ih => simp only [List.any_cons, ih]; cases f x <;> cases g x <;> simp
theorem h3_two (p : Pt) (k : Nat) (a b : Int) : h3 p k a b a = (dn p k a || dn p k b) := by
  unfold h3 dn
  rw [← any_or]
  congr 1
  funext l
  rw [← any_or]
  congr 1
  funext t
  simp only [is3]
  cases (t == a) <;> cases (t == b) <;> rfl
set_option maxRecDepth 100000 in
set_option maxHeartbeats 4000000 in
theorem has_any3 (v : Value) (p : Pt) (w : World) (h : RdP w v p) (k : Nat) (hk : k ≤ 1000) (ta tb tc : Int) :
    Calls Tryd.prog 19 #[v, .int .i64 (k : Int), .int .i64 ta, .int .i64 tb, .int .i64 tc] w fun e w' => e = .returned (.bool (h3 p k ta tb tc)) ∧ Below w.heap.size w w' := by
  obtain ⟨v0, v1, vl, rfl, h0, h1, hl⟩ := h
  obtain ⟨al, cl, rfl, _, hm, _⟩ := id hl
  have hst := pb_start w p.nm v0 v1 (.slice al p.ln.length cl)
  have hat := fun j (hj : j < p.ln.length) => hl.at hj
  obtain ⟨q, hq⟩ : ∃ q, w.heap.size = q := ⟨_, rfl⟩
  obtain ⟨n, hn⟩ : ∃ n, p.ln.length = n := ⟨_, rfl⟩
  obtain ⟨nm, hnm⟩ : ∃ nm, p.nm = nm := ⟨_, rfl⟩
  simp only [hn, hq, hnm] at hst hat hm ⊢
  obtain ⟨W, hW⟩ : ∃ W, w.alloc (.cells #[.string nm, v0, v1, .slice al n cl] 26) = W := ⟨_, rfl⟩
  rw [hW] at hst
  have HP : Hid (PB q w nm v0 v1 (.slice al n cl) W) := hst
  have c3 := hst.c3
  have HAT : Hid (∀ j, j < n → _) := hat
  have HN : Hid (p.ln.length = n) := hn
  have HM : Hid (n ≤ 140737488355328) := hm
  have HK : Hid (k ≤ 1000) := hk
  clear hst hat hm h0 h1 hl
  go_enter Tryd.func19, Tryd.ntmps19
  go_wp2
  go_loopw [11] (fun v7 wr => ∃ i : Nat, i ≤ n ∧ i ≤ k + 1 ∧ v7 = .int .i64 i ∧ (p.ln.take i).any (fun l => l.2.any (is3 ta tb tc)) = false ∧ wr = W) (fun v _ => n - (intOf v).toNat)
  case atStart => exact ⟨0, Nat.zero_le _, Nat.zero_le _, rfl, by simp, rfl⟩
  case round =>
    obtain ⟨i, hi, hik, rfl, hno, rfl⟩ := hrel
    by_cases hin : i ≤ k ∧ i < n
    · have b1 : (i : Int) ≤ (k : Int) := by omega
      have b2 : (i : Int) < (n : Int) := by omega
      obtain ⟨b, o, a2, n2, c2, rfl, hc, hrn, hn2⟩ := HAT.out i hin.2
      have x1 := (hc _ HP.out.old).2
      have hta := hrn.at
      rw [hq] at hta
      obtain ⟨ts, hts⟩ : ∃ ts, (p.ln.getD i (0, [])).2 = ts := ⟨_, rfl⟩
      rw [hts] at hta hn2
      have hnx := any_take p.ln (fun l => l.2.any (is3 ta tb tc)) i (by rw [HN.out]; exact hin.2)
      simp only [hno, hts, Bool.false_or] at hnx
      have HNX : Hid ((p.ln.take (i + 1)).any (fun l => l.2.any (is3 ta tb tc)) = ts.any (is3 ta tb tc)) := hnx
      have HTA : Hid _ := hta
      have HI : Hid (i ≤ k ∧ i < n) := hin
      clear hc hrn hta hnx hts hno hi hik hin
      go_wp2
      go_loopw [12] (fun v8 wy => ∃ j : Nat, j ≤ n2 ∧ v8 = .int .i64 j ∧ (ts.take j).any (is3 ta tb tc) = false ∧ wy = wr) (fun v _ => n2 - (intOf v).toNat)
      case atStart => exact ⟨0, Nat.zero_le _, rfl, by simp, rfl⟩
      case round =>
        obtain ⟨j, hj, rfl, hno, rfl⟩ := hrel
        by_cases hjl : j < n2
        · have b4 : (j : Int) < (n2 : Int) := by omega
          obtain ⟨b', o', rfl, hcj⟩ := HTA.out.2.2 j hjl
          have cj := hcj _ HP.out.old
          have hjs : j < ts.length := by have := HTA.out.1; omega
          have hnx := any_takeF ts (is3 ta tb tc) j hjs
          rw [hno, Bool.false_or] at hnx
          obtain ⟨u, hu⟩ : ∃ u, ts.getD j 0 = u := ⟨_, rfl⟩
          rw [hu] at cj hnx
          have HN2 : Hid ((ts.take (j + 1)).any (is3 ta tb tc) = is3 ta tb tc u) := hnx
          have HJ : Hid (j < n2 ∧ n2 ≤ 140737488355328) := ⟨hjl, HTA.out.2.1⟩
          clear hcj hnx hno hj
          rcases hut : is3 ta tb tc u with _ | _
          · have HUB : Hid (is3 ta tb tc u = false) := hut
            simp only [is3, Bool.or_eq_false_iff] at hut
            have n1 := hut.1.1
            have n2' := hut.1.2
            have n3 := hut.2
            clear hut
            go_wp2
            first
              | exact ⟨⟨j + 1, HJ.out.1, congrArg (Value.int .i64) (wrapS HJ.out.1 HJ.out.2), by rw [HN2.out, HUB.out], trivial⟩, measS HJ.out.1 HJ.out.2⟩
              | exact ⟨⟨_, ⟨j + 1, HJ.out.1, congrArg (Value.int .i64) (wrapS HJ.out.1 HJ.out.2), by rw [HN2.out, HUB.out], trivial⟩, rfl⟩, measS HJ.out.1 HJ.out.2⟩
          · have HR : Hid (h3 p k ta tb tc = true) := by
              show h3 p k ta tb tc = true
              have h1 : ts.any (is3 ta tb tc) = true := any_true (i := j + 1) (by rw [HN2.out, hut])
              have h2 := HNX.out
              rw [h1] at h2
              unfold h3
              have e : p.ln.take (i + 1) = (p.ln.take (k + 1)).take (i + 1) := by rw [List.take_take]; congr 1; have := HI.out.1; omega
              rw [e] at h2
              exact any_true h2
            by_cases ua : u = ta
            · subst ua
              clear hut
              go_wp2
              go_ret
              exact ⟨by rw [HR.out]; rfl, HP.out.old⟩
            · have ua' : (u == ta) = false := by simpa using ua
              by_cases ub : u = tb
              · subst ub
                clear hut
                go_wp2
                go_ret
                exact ⟨by rw [HR.out]; rfl, HP.out.old⟩
              · have ub' : (u == tb) = false := by simpa using ub
                have uc : u = tc := by simpa [is3, ua, ub] using hut
                subst uc
                clear hut
                go_wp2
                go_ret
                exact ⟨by rw [HR.out]; rfl, HP.out.old⟩
        · have b4 : ¬ (j : Int) < (n2 : Int) := by omega
          have HNN : Hid ((p.ln.take (i + 1)).any (fun l => l.2.any (is3 ta tb tc)) = false) := by
            show (p.ln.take (i + 1)).any (fun l => l.2.any (is3 ta tb tc)) = false
            rw [HNX.out, ← hno, List.take_of_length_le (by have := HTA.out.1; omega)]
          clear hno
          go_wp2
          exact ⟨⟨i + 1, HI.out.2, Nat.succ_le_succ HI.out.1, congrArg (Value.int .i64) (Int.natCast_succ i).symm, HNN.out, trivial⟩, measP HI.out.2⟩
    · have HR : Hid (h3 p k ta tb tc = false) := by
        show h3 p k ta tb tc = false
        unfold h3
        rw [← hno]
        by_cases h : i ≤ k
        · have : n ≤ i := by omega
          rw [List.take_of_length_le (by rw [HN.out]; omega), List.take_of_length_le (by rw [HN.out]; omega)]
        · rw [show i = k + 1 by omega]
      by_cases hle : i ≤ k
      · have b1 : (i : Int) ≤ (k : Int) := by omega
        have b2 : ¬ (i : Int) < (n : Int) := by omega
        clear hno hin
        go_wp2
        go_ret
        exact ⟨by rw [HR.out]; rfl, HP.out.old⟩
      · have b1 : ¬ (i : Int) ≤ (k : Int) := by omega
        have b1' : decide ((i : Int) ≤ (k : Int)) = false := decide_eq_false b1
        clear hno hin
        go_wp2
        go_ret
        exact ⟨by rw [HR.out]; rfl, HP.out.old⟩
/-- more than a statement plays -/
def lng (p : Pt) : Bool := decide (200 < p.b0.length) || decide (200 < p.b1.length) || decide (200 < p.ln.length) || p.ln.any fun l => decide (200 < l.2.length)
end Go.Proofs.YtjhleocpipmklaaDoor
