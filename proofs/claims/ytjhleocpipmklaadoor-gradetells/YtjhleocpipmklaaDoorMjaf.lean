import Derived.Test.YtjhleocpipmklaaDoorTie
import Derived.Test.YtjhleocpipmklaaDoorCards
import Derived.LaidLaws
import Derived.LaidHandle
import Derived.Lay
import Derived.LaidEql
import Derived.SevenTiedAt
import Derived.Test.YtjhleocpipmklaaDoorMjae
import Derived.Test.YtjhleocpipmklaaDoorMjaa
namespace Go.Proofs.YtjhleocpipmklaaDoor
set_option linter.unusedSimpArgs false
set_option linter.unusedVariables false
open Go.ChangeShapes Go.WideShapes Go.ChangeAt Go.RowKit Go.Pin Go.Pat Go.Deep
theorem own : ownKnob Tryd.prog.godebug = none := by kernel_rfl
theorem laidOut : laidOutB Tryd.prog = true := by kernel_rfl
def laidV : List (String × DataW Unit) := [("pintle/api.ErrArg", Rows.laid_pintle_api_ErrArg), ("pintle/api.ErrText", Rows.laid_pintle_api_ErrText), ("pintle/api.ErrInvalid", Rows.laid_pintle_api_ErrInvalid), ("pintle/api.ErrTwice", Rows.laid_pintle_api_ErrTwice), ("pintle/api.ErrLacks", Rows.laid_pintle_api_ErrLacks), ("pintle/api.ErrUnsafe", Rows.laid_pintle_api_ErrUnsafe), ("pintle/pattern.rules", Rows.laid_pintle_pattern_rules), ("pintle/pattern.hazards", Rows.laid_pintle_pattern_hazards), ("pintle/pattern.heads", Rows.laid_pintle_pattern_heads), ("pintle/pattern.tokenWords", Rows.laid_pintle_pattern_tokenWords)]
theorem g_1 : Tryd.prog.globalNamed "pintle/api.ErrArg" = some (0) := by kernel_rfl
theorem t_1 : (Tryd.prog.globals[0]?).map (·.type) = some 32 := by kernel_rfl
theorem g_8 : Tryd.prog.globalNamed "pintle/api.ErrText" = some (7) := by kernel_rfl
theorem t_8 : (Tryd.prog.globals[7]?).map (·.type) = some 32 := by kernel_rfl
theorem g_9 : Tryd.prog.globalNamed "pintle/api.ErrInvalid" = some (1) := by kernel_rfl
theorem t_9 : (Tryd.prog.globals[1]?).map (·.type) = some 32 := by kernel_rfl
theorem g_10 : Tryd.prog.globalNamed "pintle/api.ErrTwice" = some (2) := by kernel_rfl
theorem t_10 : (Tryd.prog.globals[2]?).map (·.type) = some 32 := by kernel_rfl
theorem g_11 : Tryd.prog.globalNamed "pintle/api.ErrLacks" = some (3) := by kernel_rfl
theorem t_11 : (Tryd.prog.globals[3]?).map (·.type) = some 32 := by kernel_rfl
theorem g_12 : Tryd.prog.globalNamed "pintle/api.ErrUnsafe" = some (4) := by kernel_rfl
theorem t_12 : (Tryd.prog.globals[4]?).map (·.type) = some 32 := by kernel_rfl
theorem g_rules : Tryd.prog.globalNamed "pintle/pattern.rules" = some (5) := by kernel_rfl
theorem t_rules : (Tryd.prog.globals[5]?).map (·.type) = some 100 := by kernel_rfl
def c_rules : List Value := [.int .i64 0, .int .i64 0, .bool false, .bool false, .bool false, .bool false, .bool false, .bool false, .bool false, .bool false, .bool false, .bool false, .int .i64 0, .int .i64 2, .bool true, .bool false, .bool false, .bool false, .bool false, .bool false, .bool false, .bool false, .bool false, .bool false, .int .i64 1, .int .i64 3, .bool true, .bool false, .bool false, .bool false, .bool false, .bool false, .bool false, .bool false, .bool false, .bool false, .int .i64 4, .int .i64 4, .bool true, .bool true, .bool false, .bool true, .bool false, .bool false, .bool false, .bool false, .bool false, .bool false, .int .i64 5, .int .i64 5, .bool true, .bool true, .bool false, .bool false, .bool true, .bool false, .bool false, .bool false, .bool false, .bool false, .int .i64 6, .int .i64 6, .bool true, .bool false, .bool true, .bool true, .bool false, .bool false, .bool false, .bool false, .bool false, .bool false, .int .i64 7, .int .i64 7, .bool true, .bool false, .bool true, .bool false, .bool true, .bool false, .bool false, .bool false, .bool false, .bool false, .int .i64 8, .int .i64 8, .bool false, .bool false, .bool false, .bool false, .bool false, .bool false, .bool false, .bool false, .bool false, .bool false]
theorem f_rules : flt Tryd.prog 40 100 Rows.laid_pintle_pattern_rules = some c_rules := by kernel_rfl
theorem g_hazards : Tryd.prog.globalNamed "pintle/pattern.hazards" = some (6) := by kernel_rfl
theorem t_hazards : (Tryd.prog.globals[6]?).map (·.type) = some 104 := by kernel_rfl
def c_hazards : List Value := [.int .i64 0, .bool false, .bool false, .bool false, .bool false, .bool true, .bool false, .bool true, .bool false, .bool false, .bool false, .bool false, .bool false, .bool false, .bool false, .bool false, .bool true, .bool false, .bool false, .int .i64 0, .bool false, .bool false, .bool false, .bool false, .bool false, .bool true, .bool false, .bool true, .bool false, .bool false, .bool false, .bool false, .bool false, .bool false, .bool false, .bool false, .bool true, .bool false, .int .i64 0, .bool true, .bool false, .bool false, .bool false, .bool false, .bool false, .bool false, .bool false, .bool true, .bool false, .bool false, .bool false, .bool false, .bool false, .bool false, .bool false, .bool false, .bool true, .int .i64 1, .bool false, .bool false, .bool false, .bool false, .bool true, .bool true, .bool false, .bool false, .bool false, .bool false, .bool false, .bool false, .bool false, .bool false, .bool true, .bool false, .bool false, .bool false, .int .i64 1, .bool false, .bool false, .bool false, .bool false, .bool false, .bool false, .bool true, .bool true, .bool false, .bool false, .bool false, .bool false, .bool false, .bool false, .bool false, .bool false, .bool true, .bool false, .int .i64 1, .bool false, .bool false, .bool true, .bool false, .bool false, .bool false, .bool false, .bool false, .bool true, .bool false, .bool false, .bool false, .bool false, .bool false, .bool false, .bool false, .bool false, .bool true]
theorem f_hazards : flt Tryd.prog 40 104 Rows.laid_pintle_pattern_hazards = some c_hazards := by kernel_rfl
theorem g_heads : Tryd.prog.globalNamed "pintle/pattern.heads" = some (9) := by kernel_rfl
theorem t_heads : (Tryd.prog.globals[9]?).map (·.type) = some 166 := by kernel_rfl
def c_heads : List Value := [.string ⟨#[32, 32, 45, 62, 32]⟩, .string ⟨#[32, 32, 60, 45, 32]⟩]
theorem f_heads : flt Tryd.prog 40 166 Rows.laid_pintle_pattern_heads = some c_heads := by kernel_rfl
theorem g_tokenWords : Tryd.prog.globalNamed "pintle/pattern.tokenWords" = some (10) := by kernel_rfl
theorem t_tokenWords : (Tryd.prog.globals[10]?).map (·.type) = some 172 := by kernel_rfl
def c_tokenWords : List Value := [.string ⟨#[]⟩, .string ⟨#[101]⟩, .string ⟨#[115]⟩, .string ⟨#[101, 101]⟩, .string ⟨#[101, 115]⟩, .string ⟨#[115, 101]⟩, .string ⟨#[115, 115]⟩, .string ⟨#[112, 115, 107]⟩]
theorem f_tokenWords : flt Tryd.prog 40 172 Rows.laid_pintle_pattern_tokenWords = some c_tokenWords := by kernel_rfl
theorem star : ("*errors.errorString" : String) = "*" ++ "errors.errorString" := by decide
theorem row_err : ∀ u, Tryd.prog.typeName? 3 u = some "*errors.errorString" → u = 173 := fun u h =>
  typeName_ptr_named (nm := "errors.errorString") (by rw [← star]; kernel_rfl) (by kernel_rfl) (by decide) u (by rw [← star]; exact h)
/-- where an error's variable lies -/
def eblk : Int → Nat
  | 1 => 0
  | 8 => 7
  | 9 => 1
  | 10 => 2
  | 11 => 3
  | 12 => 4
  | _ => 0
def emsg : Int → List UInt8
  | 1 => [112, 105, 110, 116, 108, 101, 58, 32, 97, 114, 103, 117, 109, 101, 110, 116]
  | 8 => [112, 105, 110, 116, 108, 101, 58, 32, 110, 111, 32, 112, 97, 116, 116, 101, 114, 110]
  | 9 => [112, 105, 110, 116, 108, 101, 58, 32, 112, 97, 116, 116, 101, 114, 110, 32, 105, 110, 118, 97, 108, 105, 100]
  | 10 => [112, 105, 110, 116, 108, 101, 58, 32, 116, 119, 105, 99, 101]
  | 11 => [112, 105, 110, 116, 108, 101, 58, 32, 108, 97, 99, 107, 115]
  | 12 => [112, 105, 110, 116, 108, 101, 58, 32, 117, 110, 115, 97, 102, 101]
  | _ => []
def ecs : List Int := [1, 8, 9, 10, 11, 12]
/-- the program's tables -/
structure Tabs (W : World) : Prop where
  rules : W.rangeAt 5 0 c_rules
  hazards : W.rangeAt 6 0 c_hazards
  heads : W.rangeAt 9 0 c_heads
  tokenWords : W.rangeAt 10 0 c_tokenWords
/-- the errors' variables, and where they point; the tables -/
def Errs (ea : Int → Addr) (W : World) : Prop := (∀ c ∈ ecs, W.cell? ⟨eblk c, 0, none⟩ = some (.iface 173 (.pointer (some (ea c)))) ∧ (∃ s : ByteArray, W.cell? (ea c) = some (.string s) ∧ s.data.toList = emsg c) ∧ ∃ ca ta, W.heap[(ea c).block]? = some (.cells ca ta (0, 0))) ∧ Tabs W
theorem Errs.inj {ea : Int → Addr} {W : World} (h : Errs ea W) : ∀ c ∈ ecs, ∀ d ∈ ecs, ea c = ea d → c = d := fun c hc d hd e => by
  obtain ⟨_, ⟨s, h1, h2⟩, _⟩ := h.1 c hc
  obtain ⟨_, ⟨t, h3, h4⟩, _⟩ := h.1 d hd
  rw [e, h3] at h1
  injection h1 with h1
  injection h1 with h1
  subst h1
  have : emsg c = emsg d := h2.symm.trans h4
  revert this
  have key : ∀ c ∈ ecs, ∀ d ∈ ecs, emsg c = emsg d → c = d := by decide
  exact key c hc d hd
theorem info_some {P : Program} {t : TypeId} {α : Type} {f : TypeInfo → α} {x : α} (h : (P.info? t).map f = some x) : ∃ i, P.info? t = some i ∧ f i = x := Option.map_eq_some_iff.1 h
theorem cellA_below {w W : World} {a : Addr} {v : Value} (hb : Below w.heap.size w W) (h : w.cell? a = some v) : W.cell? a = some v := by
  rw [World.cell?_of_block (hb.block a.block (World.block_lt_of_cell? w _ h))]
  exact h
theorem Tabs.below {w W : World} (h : Tabs w) (hb : Below w.heap.size w W) : Tabs W := ⟨fun n v hn => cellA_below hb (h.rules n v hn), fun n v hn => cellA_below hb (h.hazards n v hn), fun n v hn => cellA_below hb (h.heads n v hn), fun n v hn => cellA_below hb (h.tokenWords n v hn)⟩
theorem Errs.below {ea : Int → Addr} {w W : World} (h : Errs ea w) (hb : Below w.heap.size w W) : Errs ea W := by
  refine ⟨fun c hc => ?_, h.2.below hb⟩
  obtain ⟨h1, ⟨s, h2, h3⟩, ca, ta, h4⟩ := h.1 c hc
  exact ⟨cellA_below hb h1, ⟨s, cellA_below hb h2, h3⟩, ca, ta, (hb.block _ (Array.getElem?_eq_some_iff.1 h4).1).trans h4⟩
theorem eq_err {ea : Int → Addr} {W : World} (h : Errs ea W) {c d : Int} (hc : c ∈ ecs) (hd : d ∈ ecs) : (binOp .eql 32 (.iface 173 (.pointer (some (ea c)))) (.iface 173 (.pointer (some (ea d))))).run Tryd.prog W = .ok (.bool (decide (c = d))) W := by
  obtain ⟨i, hi, hcm⟩ := info_some (P := Tryd.prog) (t := 173) (f := (·.comparable)) (x := true) (by kernel_rfl)
  obtain ⟨j, hj, hjs⟩ := info_some (P := Tryd.prog) (t := 187) (f := (·.size)) (x := 1) (by kernel_rfl)
  by_cases e : c = d
  · subst e
    rw [decide_eq_true rfl]
    exact run_eql_iface_ptr_same W (ea c) Tryd.underlying32 Tryd.underlying173 hi hcm hj
  · rw [decide_eq_false e]
    obtain ⟨_, _, ca, ta, h1⟩ := h.1 c hc
    obtain ⟨_, _, cb, tb, h2⟩ := h.1 d hd
    exact run_eql_iface_ptr_other W Tryd.underlying32 Tryd.underlying173 hi hcm hj (by rw [hjs]; decide) (fun e' => e (h.inj c hc d hd e')) h1 h2
/-- an error as a value -/
def EV (ea : Int → Addr) (c : Int) : Value := if c = 0 then .nilIface else .iface 173 (.pointer (some (ea c)))
set_option maxRecDepth 100000 in
theorem errs_of_laid {W : World} (h0 : laidMetH Tryd.prog laidV W) : ∃ ea, Errs ea W := by
  have h : laidMet Tryd.prog laidV W := h0
  obtain ⟨ps, ⟨g0, t0, cs0, f0, p0, q0, hg0, ht0, hv0, hd0, ⟨g1, t1, cs1, f1, p1, q1, hg1, ht1, hv1, hd1, ⟨g2, t2, cs2, f2, p2, q2, hg2, ht2, hv2, hd2, ⟨g3, t3, cs3, f3, p3, q3, hg3, ht3, hv3, hd3, ⟨g4, t4, cs4, f4, p4, q4, hg4, ht4, hv4, hd4, ⟨g5, t5, cs5, f5, p5, q5, hg5, ht5, hv5, hd5, ⟨g6, t6, cs6, f6, p6, q6, hg6, ht6, hv6, hd6, ⟨g7, t7, cs7, f7, p7, q7, hg7, ht7, hv7, hd7, ⟨g8, t8, cs8, f8, p8, q8, hg8, ht8, hv8, hd8, ⟨g9, t9, cs9, f9, p9, q9, hg9, ht9, hv9, hd9, hqz, e9⟩, e8⟩, e7⟩, e6⟩, e5⟩, e4⟩, e3⟩, e2⟩, e1⟩, e0⟩, hnd, hrows⟩ := h
  obtain rfl := Option.some.inj (g_1.symm.trans hg0)
  obtain rfl := Option.some.inj (t_1.symm.trans ht0)
  obtain rfl := Option.some.inj (g_8.symm.trans hg1)
  obtain rfl := Option.some.inj (t_8.symm.trans ht1)
  obtain rfl := Option.some.inj (g_9.symm.trans hg2)
  obtain rfl := Option.some.inj (t_9.symm.trans ht2)
  obtain rfl := Option.some.inj (g_10.symm.trans hg3)
  obtain rfl := Option.some.inj (t_10.symm.trans ht3)
  obtain rfl := Option.some.inj (g_11.symm.trans hg4)
  obtain rfl := Option.some.inj (t_11.symm.trans ht4)
  obtain rfl := Option.some.inj (g_12.symm.trans hg5)
  obtain rfl := Option.some.inj (t_12.symm.trans ht5)
  obtain rfl := Option.some.inj (g_rules.symm.trans hg6)
  obtain rfl := Option.some.inj (t_rules.symm.trans ht6)
  obtain rfl := Option.some.inj (g_hazards.symm.trans hg7)
  obtain rfl := Option.some.inj (t_hazards.symm.trans ht7)
  obtain rfl := Option.some.inj (g_heads.symm.trans hg8)
  obtain rfl := Option.some.inj (t_heads.symm.trans ht8)
  obtain rfl := Option.some.inj (g_tokenWords.symm.trans hg9)
  obtain rfl := Option.some.inj (t_tokenWords.symm.trans ht9)
  have hqz' : q9 = [] := hqz
  subst hqz'
  subst e9
  subst e8
  subst e7
  subst e6
  subst e5
  subst e4
  subst e3
  subst e2
  subst e1
  subst e0
  obtain ⟨l6⟩ := cs6
  obtain rfl : l6 = c_rules := cells_of_flt f_rules hd6
  have y6 : W.rangeAt 5 0 c_rules := fun n v hn => by
    have := World.var?_cell hg6 hv6 n
    rw [Nat.zero_add, this, ← hn]
    simp
  obtain ⟨l7⟩ := cs7
  obtain rfl : l7 = c_hazards := cells_of_flt f_hazards hd7
  have y7 : W.rangeAt 6 0 c_hazards := fun n v hn => by
    have := World.var?_cell hg7 hv7 n
    rw [Nat.zero_add, this, ← hn]
    simp
  obtain ⟨l8⟩ := cs8
  obtain rfl : l8 = c_heads := cells_of_flt f_heads hd8
  have y8 : W.rangeAt 9 0 c_heads := fun n v hn => by
    have := World.var?_cell hg8 hv8 n
    rw [Nat.zero_add, this, ← hn]
    simp
  obtain ⟨l9⟩ := cs9
  obtain rfl : l9 = c_tokenWords := cells_of_flt f_tokenWords hd9
  have y9 : W.rangeAt 10 0 c_tokenWords := fun n v hn => by
    have := World.var?_cell hg9 hv9 n
    rw [Nat.zero_add, this, ← hn]
    simp
  obtain ⟨l0⟩ := cs0
  have ok0 : ∀ u v, l0 = [.iface u v] → Value.okWide Tryd.prog W .any 0 u v := fun u v e => by
    subst e
    exact (hrows (0) 0 (by simp [MemPlace.row])).2 u v (by simpa using World.var?_cell hg0 hv0 0)
  obtain ⟨a0, s0, rfl, hc0, hs0, hz0, rfl⟩ := errorString_of_trod Tryd.underlying32 row_err Tryd.underlying173 Tryd.underlying187 rfl rfl Tryd.underlying9 (by kernel_rfl) (by kernel_rfl) hd0 ok0
  have x0 : W.cell? ⟨0, 0, none⟩ = some (.iface 173 (.pointer (some a0))) := by simpa using World.var?_cell hg0 hv0 0
  obtain ⟨l1⟩ := cs1
  have ok1 : ∀ u v, l1 = [.iface u v] → Value.okWide Tryd.prog W .any 0 u v := fun u v e => by
    subst e
    exact (hrows (7) 0 (by simp [MemPlace.row])).2 u v (by simpa using World.var?_cell hg1 hv1 0)
  obtain ⟨a1, s1, rfl, hc1, hs1, hz1, rfl⟩ := errorString_of_trod Tryd.underlying32 row_err Tryd.underlying173 Tryd.underlying187 rfl rfl Tryd.underlying9 (by kernel_rfl) (by kernel_rfl) hd1 ok1
  have x1 : W.cell? ⟨7, 0, none⟩ = some (.iface 173 (.pointer (some a1))) := by simpa using World.var?_cell hg1 hv1 0
  obtain ⟨l2⟩ := cs2
  have ok2 : ∀ u v, l2 = [.iface u v] → Value.okWide Tryd.prog W .any 0 u v := fun u v e => by
    subst e
    exact (hrows (1) 0 (by simp [MemPlace.row])).2 u v (by simpa using World.var?_cell hg2 hv2 0)
  obtain ⟨a2, s2, rfl, hc2, hs2, hz2, rfl⟩ := errorString_of_trod Tryd.underlying32 row_err Tryd.underlying173 Tryd.underlying187 rfl rfl Tryd.underlying9 (by kernel_rfl) (by kernel_rfl) hd2 ok2
  have x2 : W.cell? ⟨1, 0, none⟩ = some (.iface 173 (.pointer (some a2))) := by simpa using World.var?_cell hg2 hv2 0
  obtain ⟨l3⟩ := cs3
  have ok3 : ∀ u v, l3 = [.iface u v] → Value.okWide Tryd.prog W .any 0 u v := fun u v e => by
    subst e
    exact (hrows (2) 0 (by simp [MemPlace.row])).2 u v (by simpa using World.var?_cell hg3 hv3 0)
  obtain ⟨a3, s3, rfl, hc3, hs3, hz3, rfl⟩ := errorString_of_trod Tryd.underlying32 row_err Tryd.underlying173 Tryd.underlying187 rfl rfl Tryd.underlying9 (by kernel_rfl) (by kernel_rfl) hd3 ok3
  have x3 : W.cell? ⟨2, 0, none⟩ = some (.iface 173 (.pointer (some a3))) := by simpa using World.var?_cell hg3 hv3 0
  obtain ⟨l4⟩ := cs4
  have ok4 : ∀ u v, l4 = [.iface u v] → Value.okWide Tryd.prog W .any 0 u v := fun u v e => by
    subst e
    exact (hrows (3) 0 (by simp [MemPlace.row])).2 u v (by simpa using World.var?_cell hg4 hv4 0)
  obtain ⟨a4, s4, rfl, hc4, hs4, hz4, rfl⟩ := errorString_of_trod Tryd.underlying32 row_err Tryd.underlying173 Tryd.underlying187 rfl rfl Tryd.underlying9 (by kernel_rfl) (by kernel_rfl) hd4 ok4
  have x4 : W.cell? ⟨3, 0, none⟩ = some (.iface 173 (.pointer (some a4))) := by simpa using World.var?_cell hg4 hv4 0
  obtain ⟨l5⟩ := cs5
  have ok5 : ∀ u v, l5 = [.iface u v] → Value.okWide Tryd.prog W .any 0 u v := fun u v e => by
    subst e
    exact (hrows (4) 0 (by simp [MemPlace.row])).2 u v (by simpa using World.var?_cell hg5 hv5 0)
  obtain ⟨a5, s5, rfl, hc5, hs5, hz5, rfl⟩ := errorString_of_trod Tryd.underlying32 row_err Tryd.underlying173 Tryd.underlying187 rfl rfl Tryd.underlying9 (by kernel_rfl) (by kernel_rfl) hd5 ok5
  have x5 : W.cell? ⟨4, 0, none⟩ = some (.iface 173 (.pointer (some a5))) := by simpa using World.var?_cell hg5 hv5 0
  refine ⟨fun c => if c = 1 then a0 else if c = 8 then a1 else if c = 9 then a2 else if c = 10 then a3 else if c = 11 then a4 else if c = 12 then a5 else a0, fun c hc => ?_, ⟨y6, y7, y8, y9⟩⟩
  simp only [ecs, List.mem_cons, List.not_mem_nil, or_false] at hc
  rcases hc with rfl | rfl | rfl | rfl | rfl | rfl
  · exact ⟨x0, ⟨s0, hc0, hs0⟩, (hrows a0.block a0.off (by simp [MemPlace.row])).1⟩
  · exact ⟨x1, ⟨s1, hc1, hs1⟩, (hrows a1.block a1.off (by simp [MemPlace.row])).1⟩
  · exact ⟨x2, ⟨s2, hc2, hs2⟩, (hrows a2.block a2.off (by simp [MemPlace.row])).1⟩
  · exact ⟨x3, ⟨s3, hc3, hs3⟩, (hrows a3.block a3.off (by simp [MemPlace.row])).1⟩
  · exact ⟨x4, ⟨s4, hc4, hs4⟩, (hrows a4.block a4.off (by simp [MemPlace.row])).1⟩
  · exact ⟨x5, ⟨s5, hc5, hs5⟩, (hrows a5.block a5.off (by simp [MemPlace.row])).1⟩
end Go.Proofs.YtjhleocpipmklaaDoor
/- what each message is worth, by the document's words -/
namespace Go.Pat
def lst (p : Pt) : Int := (p.ln.getD (p.ln.length - 1) (0, [])).1
def sender (p : Pt) (k : Nat) : Int :=
  if k < p.ln.length then (p.ln.getD k (0, [])).1
  else if p.ln.length = 0 then 0
  else if oneWay p then 0
  else if (k - p.ln.length) % 2 = 0 then 1 - lst p else lst p
def dn (p : Pt) (k : Nat) (t : Int) : Bool := (p.ln.take (k + 1)).any fun l => l.2.any (· == t)
def stc (s : Int) : Int := if s = 0 then 5 else 4
def src (p : Pt) (k : Nat) : Int := if dn p k (stc (sender p k)) then 2 else if dn p k 6 then 1 else 0
def bst (p : Pt) (f : Int) : Nat → Int
  | 0 => 0
  | k + 1 => if sender p k ≠ f ∧ src p k > bst p f k then src p k else bst p f k
def dst (p : Pt) (k : Nat) : Int :=
  if dn p k 3 = false ∧ dn p k (stc (1 - sender p k)) = false then 0
  else if dn p k (stc (1 - sender p k)) = false then 1
  else if dn p k 3 = false then 2
  else 3 + bst p (sender p k) k
theorem src_in (p : Pt) (k : Nat) : 0 ≤ src p k ∧ src p k ≤ 2 := by
  unfold src
  split
  · omega
  · split <;> omega
theorem bst_in (p : Pt) (f : Int) : ∀ k, 0 ≤ bst p f k ∧ bst p f k ≤ 2
  | 0 => by simp [bst]
  | k + 1 => by
    have := bst_in p f k
    have := src_in p k
    simp only [bst]
    split <;> omega
theorem sender_in (p : Pt) (hv : ∀ l ∈ p.ln, l.1 = 0 ∨ l.1 = 1) (k : Nat) : sender p k = 0 ∨ sender p k = 1 := by
  have hg : ∀ j, j < p.ln.length → (p.ln.getD j (0, [])).1 = 0 ∨ (p.ln.getD j (0, [])).1 = 1 := fun j hj => hv _ (by simp [List.getD, hj])
  unfold sender lst
  split
  · exact hg _ (by assumption)
  · split
    · exact .inl rfl
    · split
      · exact .inl rfl
      · have := hg (p.ln.length - 1) (by omega)
        split <;> omega
end Go.Pat
namespace Go.Proofs.YtjhleocpipmklaaDoor
set_option linter.unusedSimpArgs false
set_option linter.unusedVariables false
open Go.ChangeShapes Go.WideShapes Go.ChangeAt Go.RowKit Go.Pin Go.Pat
theorem measP {i n : Nat} (h : i < n) : n - (intOf (Value.int .i64 ((i : Int) + 1))).toNat < n - (intOf (Value.int .i64 (i : Int))).toNat := by
  show n - ((i : Int) + 1).toNat < n - ((i : Int)).toNat
  omega
set_option maxRecDepth 100000 in
theorem static_any (s : Int) (w : World) : Calls Tryd.prog 54 #[.int .i64 s] w fun e w' => e = .returned (.int .i64 (stc s)) ∧ w' = w := by
  go_enter Tryd.func54, Tryd.ntmps54
  go_wp2
  all_goals
    go_ret
    exact ⟨by simp_all [stc], rfl⟩
set_option maxRecDepth 100000 in
set_option maxHeartbeats 4000000 in
theorem sender_any (v : Value) (p : Pt) (w : World) (h : RdP w v p) (hv : ∀ l ∈ p.ln, l.1 = 0 ∨ l.1 = 1) (k : Nat) (hk : k ≤ 1000) :
    Calls Tryd.prog 29 #[v, .int .i64 (k : Int)] w fun e w' => e = .returned (.int .i64 (sender p k)) ∧ Below w.heap.size w w' := by
  have how := fun (W : World) (hW : Below w.heap.size w W) => oneWay_any v p W (h.below hW)
  obtain ⟨v0, v1, vl, rfl, h0, h1, hl⟩ := h
  obtain ⟨al, cl, rfl, _, hm, _⟩ := id hl
  have hst := pb_start w p.nm v0 v1 (.slice al p.ln.length cl)
  have hat := fun j (hj : j < p.ln.length) => hl.at hj
  obtain ⟨q, hq⟩ : ∃ q, w.heap.size = q := ⟨_, rfl⟩
  obtain ⟨n, hn⟩ : ∃ n, p.ln.length = n := ⟨_, rfl⟩
  obtain ⟨nm, hnm⟩ : ∃ nm, p.nm = nm := ⟨_, rfl⟩
  simp only [hn, hq, hnm] at hst hat hm how ⊢
  obtain ⟨W, hW⟩ : ∃ W, w.alloc (.cells #[.string nm, v0, v1, .slice al n cl] 26) = W := ⟨_, rfl⟩
  rw [hW] at hst
  have HP : Hid (PB q w nm v0 v1 (.slice al n cl) W) := hst
  have c0 := hst.c0
  have c1 := hst.c1
  have c2 := hst.c2
  have c3 := hst.c3
  by_cases hlt : k < n
  · obtain ⟨b, o, a2, n2, c2', rfl, hc, _, _⟩ := hat k hlt
    have x0 := (hc W hst.old).1
    have b1 : (k : Int) < (n : Int) := by omega
    have HR : Hid (sender p k = (p.ln.getD k (0, [])).1) := by show sender p k = _; simp [sender, hn, hlt]
    generalize (p.ln.getD k (0, [])).1 = f at *
    clear hst hat hm how h0 h1 hl hc
    go_enter Tryd.func29, Tryd.ntmps29
    go_wp2
    go_ret
    exact ⟨by rw [HR.out]; rfl, HP.out.old⟩
  have b1 : ¬ (k : Int) < (n : Int) := by omega
  by_cases hn0 : n = 0
  · subst hn0
    have HR : Hid (sender p k = 0) := by show sender p k = 0; simp [sender, hn]
    clear hst hat hm how h0 h1 hl
    go_enter Tryd.func29, Tryd.ntmps29
    go_wp2
    go_ret
    exact ⟨by rw [HR.out]; rfl, HP.out.old⟩
  have z1 : ¬ (n : Int) = 0 := by omega
  have z2 : ((n : Int) == 0) = false := by simpa using z1
  have HOW := how W hst.old
  rcases e : oneWay p with _ | _
  · rw [e] at HOW
    obtain ⟨b, o, a2, n2, c2', rfl, hc, _, _⟩ := hat (n - 1) (by omega)
    have hf : (p.ln.getD (n - 1) (0, [])).1 = lst p := by rw [← hn]; rfl
    rw [hf] at hc
    have hlf : lst p = 0 ∨ lst p = 1 := hv _ (by rw [hn]; simp [List.getD, show n - 1 < p.ln.length by omega])
    have hs : sender p k = if (k - n) % 2 = 0 then 1 - lst p else lst p := by simp [sender, hn, hlt, hn0, e]
    generalize lst p = f at *
    have HC : Hid _ := hc
    have bw : wrap64 ((n : Int) - 1) = ((n - 1 : Nat) : Int) := by rw [IntWalk.wrap64_in _ ⟨by omega, by omega⟩]; omega
    have bw2 : wrap64 ((k : Int) - (n : Int)) = ((k - n : Nat) : Int) := by rw [IntWalk.wrap64_in _ ⟨by omega, by omega⟩]; omega
    have b5 : ((n - 1 : Nat) : Int) < (n : Int) := by omega
    have HS : Hid (sender p k = if (k - n) % 2 = 0 then 1 - f else f) := hs
    have HF : Hid (f = 0 ∨ f = 1) := hlf
    clear hst hat hm how h0 h1 hl hc hs hf hlf
    rcases HF.out with rfl | rfl <;> by_cases hp : (k - n) % 2 = 0
    all_goals
     have hr : (((k : Int) - (n : Int)) % 2 == 0) = decide ((k - n) % 2 = 0) := by
       by_cases h : (k - n) % 2 = 0
       · rw [decide_eq_true h]; simp; omega
       · rw [decide_eq_false h]; simp; omega
     first | rw [decide_eq_true hp] at hr | rw [decide_eq_false hp] at hr
     go_enter Tryd.func29, Tryd.ntmps29
     go_upto_region 5 with (go_at_call 52; refine Calls.mono HOW ?_; rintro e w2 ⟨rfl, hw⟩; have HW2 : Hid (PB q w nm v0 v1 (.slice (some ⟨b, o, none⟩) n cl) w2) := HP.out.below hw; clear hw; have d3 := HW2.out.c3; have x0 := (HC.out w2 HW2.out.old).1)
     go_wp2
     go_ret
     exact ⟨by rw [HS.out]; simp only [hp, if_true, if_false]; rfl, HW2.out.old⟩
  · rw [e] at HOW
    have HR : Hid (sender p k = 0) := by show sender p k = 0; simp [sender, hn, hlt, hn0, e]
    clear hst hat hm how h0 h1 hl
    go_enter Tryd.func29, Tryd.ntmps29
    go_wp2_with (go_at_call 52; refine Calls.mono HOW ?_; rintro e w2 ⟨rfl, hw⟩; have HW2 : Hid (PB q w nm v0 v1 (.slice al n cl) w2) := HP.out.below hw; clear hw)
    go_ret
    exact ⟨by rw [HR.out]; rfl, HW2.out.old⟩
theorem any_take (L : List Ln) (f : Ln → Bool) (i : Nat) (h : i < L.length) : (L.take (i + 1)).any f = ((L.take i).any f || f (L.getD i (0, []))) := by
  rw [List.take_add_one, List.any_append, List.getElem?_eq_getElem h]
  simp [List.getD, h]
theorem any_takeI (C : List Int) (t : Int) (i : Nat) (h : i < C.length) : (C.take (i + 1)).any (· == t) = ((C.take i).any (· == t) || (C.getD i 0 == t)) := by
  rw [List.take_add_one, List.any_append, List.getElem?_eq_getElem h]
  simp [List.getD, h]
theorem any_true {α : Type} {L : List α} {f : α → Bool} {i : Nat} (h : (L.take i).any f = true) : L.any f = true := by
  rw [List.any_eq_true] at h ⊢
  obtain ⟨x, hx, hf⟩ := h
  exact ⟨x, List.mem_of_mem_take hx, hf⟩
set_option maxRecDepth 100000 in
set_option maxHeartbeats 4000000 in
theorem done_any (v : Value) (p : Pt) (w : World) (h : RdP w v p) (k : Nat) (hk : k ≤ 1000) (t : Int) :
    Calls Tryd.prog 53 #[v, .int .i64 (k : Int), .int .i64 t] w fun e w' => e = .returned (.bool (dn p k t)) ∧ Below w.heap.size w w' := by
  obtain ⟨v0, v1, vl, rfl, h0, h1, hl⟩ := h
  obtain ⟨al, cl, rfl, _, hm, _⟩ := id hl
  have hst := pb_start w p.nm v0 v1 (.slice al p.ln.length cl)
  have hat := fun j (hj : j < p.ln.length) => hl.at hj
  obtain ⟨q, hq⟩ : ∃ q, w.heap.size = q := ⟨_, rfl⟩
  obtain ⟨n, hn⟩ : ∃ n, p.ln.length = n := ⟨_, rfl⟩
  obtain ⟨nm, hnm⟩ : ∃ nm, p.nm = nm := ⟨_, rfl⟩
  simp only [hn, hq, hnm] at hst hat hm ⊢
  obtain ⟨W, hW⟩ : ∃ W, w.alloc (.cells #[.string nm, v0, v1, .slice al n cl] 26) = W := ⟨_, rfl⟩
  rw [hW] at hst
  have HP : Hid (PB q w nm v0 v1 (.slice al n cl) W) := hst
  have c3 := hst.c3
  have HAT : Hid (∀ j, j < n → _) := hat
  have HN : Hid (p.ln.length = n) := hn
  have HM : Hid (n ≤ 140737488355328) := hm
  have HK : Hid (k ≤ 1000) := hk
  clear hst hat hm h0 h1 hl
  go_enter Tryd.func53, Tryd.ntmps53
  go_wp2
  go_loopw [7] (fun v7 wr => ∃ i : Nat, i ≤ n ∧ i ≤ k + 1 ∧ v7 = .int .i64 i ∧ (p.ln.take i).any (fun l => l.2.any (· == t)) = false ∧ wr = W) (fun v _ => n - (intOf v).toNat)
  case atStart => exact ⟨0, Nat.zero_le _, Nat.zero_le _, rfl, by simp, rfl⟩
  case round =>
    obtain ⟨i, hi, hik, rfl, hno, rfl⟩ := hrel
    by_cases hin : i ≤ k ∧ i < n
    · have b1 : (i : Int) ≤ (k : Int) := by omega
      have b2 : (i : Int) < (n : Int) := by omega
      obtain ⟨b, o, a2, n2, c2, rfl, hc, hrn, hn2⟩ := HAT.out i hin.2
      have x1 := (hc _ HP.out.old).2
      have hta := hrn.at
      rw [hq] at hta
      obtain ⟨ts, hts⟩ : ∃ ts, (p.ln.getD i (0, [])).2 = ts := ⟨_, rfl⟩
      rw [hts] at hta hn2
      have hnx := any_take p.ln (fun l => l.2.any (· == t)) i (by rw [HN.out]; exact hin.2)
      simp only [hno, hts, Bool.false_or] at hnx
      have HNX : Hid ((p.ln.take (i + 1)).any (fun l => l.2.any (· == t)) = ts.any (· == t)) := hnx
      have HTA : Hid _ := hta
      have HI : Hid (i ≤ k ∧ i < n) := hin
      clear hc hrn hta hnx hts hno hi hik hin
      go_wp2
      go_loopw [8] (fun v8 wy => ∃ j : Nat, j ≤ n2 ∧ v8 = .int .i64 j ∧ (ts.take j).any (· == t) = false ∧ wy = wr) (fun v _ => n2 - (intOf v).toNat)
      case atStart => exact ⟨0, Nat.zero_le _, rfl, by simp, rfl⟩
      case round =>
        obtain ⟨j, hj, rfl, hno, rfl⟩ := hrel
        by_cases hjl : j < n2
        · have b4 : (j : Int) < (n2 : Int) := by omega
          obtain ⟨b', o', rfl, hcj⟩ := HTA.out.2.2 j hjl
          have cj := hcj _ HP.out.old
          have hjs : j < ts.length := by have := HTA.out.1; omega
          have hnx := any_takeI ts t j hjs
          rw [hno, Bool.false_or] at hnx
          obtain ⟨u, hu⟩ : ∃ u, ts.getD j 0 = u := ⟨_, rfl⟩
          rw [hu] at cj hnx
          have HN2 : Hid ((ts.take (j + 1)).any (· == t) = (u == t)) := hnx
          have HJ : Hid (j < n2 ∧ n2 ≤ 140737488355328) := ⟨hjl, HTA.out.2.1⟩
          clear hcj hnx hno hj
          by_cases hut : u = t
          · subst hut
            have HR : Hid (dn p k u = true) := by
              show dn p k u = true
              have h1 : ts.any (· == u) = true := any_true (i := j + 1) (by rw [HN2.out]; simp)
              have h2 := HNX.out
              rw [h1] at h2
              unfold dn
              have e : p.ln.take (i + 1) = (p.ln.take (k + 1)).take (i + 1) := by rw [List.take_take]; congr 1; have := HI.out.1; omega
              rw [e] at h2
              exact any_true h2
            go_wp2
            go_ret
            exact ⟨by rw [HR.out]; rfl, HP.out.old⟩
          · have hub : (u == t) = false := by simpa using hut
            have HUB : Hid ((u == t) = false) := hub
            go_wp2
            first
              | exact ⟨⟨j + 1, HJ.out.1, congrArg (Value.int .i64) (wrapS HJ.out.1 HJ.out.2), by rw [HN2.out, HUB.out], trivial⟩, measS HJ.out.1 HJ.out.2⟩
              | exact ⟨⟨j + 1, HJ.out.1, congrArg (Value.int .i64) (wrapS HJ.out.1 HJ.out.2), by rw [HN2.out, HUB.out], rfl⟩, measS HJ.out.1 HJ.out.2⟩
        · have b4 : ¬ (j : Int) < (n2 : Int) := by omega
          have HNN : Hid ((p.ln.take (i + 1)).any (fun l => l.2.any (· == t)) = false) := by
            show (p.ln.take (i + 1)).any (fun l => l.2.any (· == t)) = false
            rw [HNX.out, ← hno, List.take_of_length_le (by have := HTA.out.1; omega)]
          clear hno
          go_wp2
          exact ⟨⟨i + 1, HI.out.2, Nat.succ_le_succ HI.out.1, congrArg (Value.int .i64) (Int.natCast_succ i).symm, HNN.out, trivial⟩, measP HI.out.2⟩
    · have HR : Hid (dn p k t = false) := by
        show dn p k t = false
        unfold dn
        rw [← hno]
        by_cases h : i ≤ k
        · have : n ≤ i := by omega
          rw [List.take_of_length_le (by rw [HN.out]; omega), List.take_of_length_le (by rw [HN.out]; omega)]
        · rw [show i = k + 1 by omega]
      by_cases hle : i ≤ k
      · have b1 : (i : Int) ≤ (k : Int) := by omega
        have b2 : ¬ (i : Int) < (n : Int) := by omega
        clear hno hin
        go_wp2
        go_ret
        exact ⟨by rw [HR.out]; rfl, HP.out.old⟩
      · have b1 : ¬ (i : Int) ≤ (k : Int) := by omega
        have b1' : decide ((i : Int) ≤ (k : Int)) = false := decide_eq_false b1
        clear hno hin
        go_wp2
        go_ret
        exact ⟨by rw [HR.out]; rfl, HP.out.old⟩
end Go.Proofs.YtjhleocpipmklaaDoor
