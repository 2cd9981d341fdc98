import Derived.Test.YtpfidohkohldaaaGreatDoorTie
import Derived.Test.YtpfidohkohldaaaGreatDoorCards
import Derived.LaidLaws
import Derived.LaidHandle
import Derived.Lay
import Derived.LaidEql
import Derived.SevenTiedAt
import Derived.BigQuiet
import Derived.Deep.QuietTactic
import Derived.Test.YtpfidohkohldaaaGreatDoorMqac
namespace Go.Proofs.YtpfidohkohldaaaGreatDoor
set_option linter.unusedSimpArgs false
set_option linter.unusedVariables false
open Go.ChangeShapes Go.WideShapes Go.ChangeAt Go.RowKit Go.Pin Go.Pat Go.Deep
theorem own : ownKnob Tryz.prog.godebug = none := by kernel_rfl
theorem laidOut : laidOutB Tryz.prog = true := by kernel_rfl
def laidV : List (String × DataW Unit) := [("pintle/api.ErrArg", Rows.laid_pintle_api_ErrArg), ("pintle/api.ErrText", Rows.laid_pintle_api_ErrText), ("pintle/api.ErrInvalid", Rows.laid_pintle_api_ErrInvalid), ("pintle/api.ErrTwice", Rows.laid_pintle_api_ErrTwice), ("pintle/api.ErrLacks", Rows.laid_pintle_api_ErrLacks), ("pintle/api.ErrUnsafe", Rows.laid_pintle_api_ErrUnsafe), ("pintle/pattern.rules", Rows.laid_pintle_pattern_rules), ("pintle/pattern.hazards", Rows.laid_pintle_pattern_hazards), ("pintle/pattern.heads", Rows.laid_pintle_pattern_heads), ("pintle/pattern.tokenWords", Rows.laid_pintle_pattern_tokenWords)]
theorem g_1 : Tryz.prog.globalNamed "pintle/api.ErrArg" = some (2) := by kernel_rfl
theorem t_1 : (Tryz.prog.globals[2]?).map (·.type) = some 45 := by kernel_rfl
theorem g_8 : Tryz.prog.globalNamed "pintle/api.ErrText" = some (1) := by kernel_rfl
theorem t_8 : (Tryz.prog.globals[1]?).map (·.type) = some 45 := by kernel_rfl
theorem g_9 : Tryz.prog.globalNamed "pintle/api.ErrInvalid" = some (0) := by kernel_rfl
theorem t_9 : (Tryz.prog.globals[0]?).map (·.type) = some 45 := by kernel_rfl
theorem g_10 : Tryz.prog.globalNamed "pintle/api.ErrTwice" = some (8) := by kernel_rfl
theorem t_10 : (Tryz.prog.globals[8]?).map (·.type) = some 45 := by kernel_rfl
theorem g_11 : Tryz.prog.globalNamed "pintle/api.ErrLacks" = some (9) := by kernel_rfl
theorem t_11 : (Tryz.prog.globals[9]?).map (·.type) = some 45 := by kernel_rfl
theorem g_12 : Tryz.prog.globalNamed "pintle/api.ErrUnsafe" = some (3) := by kernel_rfl
theorem t_12 : (Tryz.prog.globals[3]?).map (·.type) = some 45 := by kernel_rfl
theorem g_rules : Tryz.prog.globalNamed "pintle/pattern.rules" = some (4) := by kernel_rfl
theorem t_rules : (Tryz.prog.globals[4]?).map (·.type) = some 112 := by kernel_rfl
def c_rules : List Value := [.int .i64 0, .int .i64 0, .bool false, .bool false, .bool false, .bool false, .bool false, .bool false, .bool false, .bool false, .bool false, .bool false, .int .i64 0, .int .i64 2, .bool true, .bool false, .bool false, .bool false, .bool false, .bool false, .bool false, .bool false, .bool false, .bool false, .int .i64 1, .int .i64 3, .bool true, .bool false, .bool false, .bool false, .bool false, .bool false, .bool false, .bool false, .bool false, .bool false, .int .i64 4, .int .i64 4, .bool true, .bool true, .bool false, .bool true, .bool false, .bool false, .bool false, .bool false, .bool false, .bool false, .int .i64 5, .int .i64 5, .bool true, .bool true, .bool false, .bool false, .bool true, .bool false, .bool false, .bool false, .bool false, .bool false, .int .i64 6, .int .i64 6, .bool true, .bool false, .bool true, .bool true, .bool false, .bool false, .bool false, .bool false, .bool false, .bool false, .int .i64 7, .int .i64 7, .bool true, .bool false, .bool true, .bool false, .bool true, .bool false, .bool false, .bool false, .bool false, .bool false, .int .i64 8, .int .i64 8, .bool false, .bool false, .bool false, .bool false, .bool false, .bool false, .bool false, .bool false, .bool false, .bool false]
theorem f_rules : flt Tryz.prog 40 112 Rows.laid_pintle_pattern_rules = some c_rules := by kernel_rfl
theorem g_hazards : Tryz.prog.globalNamed "pintle/pattern.hazards" = some (5) := by kernel_rfl
theorem t_hazards : (Tryz.prog.globals[5]?).map (·.type) = some 116 := by kernel_rfl
def c_hazards : List Value := [.int .i64 0, .bool false, .bool false, .bool false, .bool false, .bool true, .bool false, .bool true, .bool false, .bool false, .bool false, .bool false, .bool false, .bool false, .bool false, .bool false, .bool true, .bool false, .bool false, .int .i64 0, .bool false, .bool false, .bool false, .bool false, .bool false, .bool true, .bool false, .bool true, .bool false, .bool false, .bool false, .bool false, .bool false, .bool false, .bool false, .bool false, .bool true, .bool false, .int .i64 0, .bool true, .bool false, .bool false, .bool false, .bool false, .bool false, .bool false, .bool false, .bool true, .bool false, .bool false, .bool false, .bool false, .bool false, .bool false, .bool false, .bool false, .bool true, .int .i64 1, .bool false, .bool false, .bool false, .bool false, .bool true, .bool true, .bool false, .bool false, .bool false, .bool false, .bool false, .bool false, .bool false, .bool false, .bool true, .bool false, .bool false, .bool false, .int .i64 1, .bool false, .bool false, .bool false, .bool false, .bool false, .bool false, .bool true, .bool true, .bool false, .bool false, .bool false, .bool false, .bool false, .bool false, .bool false, .bool false, .bool true, .bool false, .int .i64 1, .bool false, .bool false, .bool true, .bool false, .bool false, .bool false, .bool false, .bool false, .bool true, .bool false, .bool false, .bool false, .bool false, .bool false, .bool false, .bool false, .bool false, .bool true]
theorem f_hazards : flt Tryz.prog 40 116 Rows.laid_pintle_pattern_hazards = some c_hazards := by kernel_rfl
theorem g_heads : Tryz.prog.globalNamed "pintle/pattern.heads" = some (6) := by kernel_rfl
theorem t_heads : (Tryz.prog.globals[6]?).map (·.type) = some 118 := by kernel_rfl
def c_heads : List Value := [.string ⟨#[32, 32, 45, 62, 32]⟩, .string ⟨#[32, 32, 60, 45, 32]⟩]
theorem f_heads : flt Tryz.prog 40 118 Rows.laid_pintle_pattern_heads = some c_heads := by kernel_rfl
theorem g_tokenWords : Tryz.prog.globalNamed "pintle/pattern.tokenWords" = some (7) := by kernel_rfl
theorem t_tokenWords : (Tryz.prog.globals[7]?).map (·.type) = some 122 := by kernel_rfl
def c_tokenWords : List Value := [.string ⟨#[]⟩, .string ⟨#[101]⟩, .string ⟨#[115]⟩, .string ⟨#[101, 101]⟩, .string ⟨#[101, 115]⟩, .string ⟨#[115, 101]⟩, .string ⟨#[115, 115]⟩, .string ⟨#[112, 115, 107]⟩]
theorem f_tokenWords : flt Tryz.prog 40 122 Rows.laid_pintle_pattern_tokenWords = some c_tokenWords := by kernel_rfl
theorem star : ("*errors.errorString" : String) = "*" ++ "errors.errorString" := by decide
theorem row_err : ∀ u, Tryz.prog.typeName? 3 u = some "*errors.errorString" → u = 166 := fun u h =>
  typeName_ptr_named (nm := "errors.errorString") (by rw [← star]; kernel_rfl) (by kernel_rfl) (by decide) u (by rw [← star]; exact h)
/-- where an error's variable lies -/
def eblk : Int → Nat
  | 1 => 2
  | 8 => 1
  | 9 => 0
  | 10 => 8
  | 11 => 9
  | 12 => 3
  | _ => 0
def emsg : Int → List UInt8
  | 1 => [112, 105, 110, 116, 108, 101, 58, 32, 97, 114, 103, 117, 109, 101, 110, 116]
  | 8 => [112, 105, 110, 116, 108, 101, 58, 32, 110, 111, 32, 112, 97, 116, 116, 101, 114, 110]
  | 9 => [112, 105, 110, 116, 108, 101, 58, 32, 112, 97, 116, 116, 101, 114, 110, 32, 105, 110, 118, 97, 108, 105, 100]
  | 10 => [112, 105, 110, 116, 108, 101, 58, 32, 116, 119, 105, 99, 101]
  | 11 => [112, 105, 110, 116, 108, 101, 58, 32, 108, 97, 99, 107, 115]
  | 12 => [112, 105, 110, 116, 108, 101, 58, 32, 117, 110, 115, 97, 102, 101]
  | _ => []
def ecs : List Int := [1, 8, 9, 10, 11, 12]
/-- the program's tables -/
structure Tabs (W : World) : Prop where
  rules : W.rangeAt 4 0 c_rules
  hazards : W.rangeAt 5 0 c_hazards
  heads : W.rangeAt 6 0 c_heads
  tokenWords : W.rangeAt 7 0 c_tokenWords
/-- the errors' variables, and where they point; the tables -/
def Errs (ea : Int → Addr) (W : World) : Prop := (∀ c ∈ ecs, W.cell? ⟨eblk c, 0, none⟩ = some (.iface 166 (.pointer (some (ea c)))) ∧ (∃ s : ByteArray, W.cell? (ea c) = some (.string s) ∧ s.data.toList = emsg c) ∧ ∃ ca ta, W.heap[(ea c).block]? = some (.cells ca ta (0, 0))) ∧ Tabs W
theorem Errs.inj {ea : Int → Addr} {W : World} (h : Errs ea W) : ∀ c ∈ ecs, ∀ d ∈ ecs, ea c = ea d → c = d := fun c hc d hd e => by
  obtain ⟨_, ⟨s, h1, h2⟩, _⟩ := h.1 c hc
  obtain ⟨_, ⟨t, h3, h4⟩, _⟩ := h.1 d hd
  rw [e, h3] at h1
  injection h1 with h1
  injection h1 with h1
  subst h1
  have : emsg c = emsg d := h2.symm.trans h4
  revert this
  have key : ∀ c ∈ ecs, ∀ d ∈ ecs, emsg c = emsg d → c = d := by decide
  exact key c hc d hd
theorem info_some {P : Program} {t : TypeId} {α : Type} {f : TypeInfo → α} {x : α} (h : (P.info? t).map f = some x) : ∃ i, P.info? t = some i ∧ f i = x := Option.map_eq_some_iff.1 h
theorem cellA_below {w W : World} {a : Addr} {v : Value} (hb : Below w.heap.size w W) (h : w.cell? a = some v) : W.cell? a = some v := by
  rw [World.cell?_of_block (hb.block a.block (World.block_lt_of_cell? w _ h))]
  exact h
theorem Tabs.below {w W : World} (h : Tabs w) (hb : Below w.heap.size w W) : Tabs W := ⟨fun n v hn => cellA_below hb (h.rules n v hn), fun n v hn => cellA_below hb (h.hazards n v hn), fun n v hn => cellA_below hb (h.heads n v hn), fun n v hn => cellA_below hb (h.tokenWords n v hn)⟩
theorem Errs.below {ea : Int → Addr} {w W : World} (h : Errs ea w) (hb : Below w.heap.size w W) : Errs ea W := by
  refine ⟨fun c hc => ?_, h.2.below hb⟩
  obtain ⟨h1, ⟨s, h2, h3⟩, ca, ta, h4⟩ := h.1 c hc
  exact ⟨cellA_below hb h1, ⟨s, cellA_below hb h2, h3⟩, ca, ta, (hb.block _ (Array.getElem?_eq_some_iff.1 h4).1).trans h4⟩
theorem eq_err {ea : Int → Addr} {W : World} (h : Errs ea W) {c d : Int} (hc : c ∈ ecs) (hd : d ∈ ecs) : (binOp .eql 45 (.iface 166 (.pointer (some (ea c)))) (.iface 166 (.pointer (some (ea d))))).run Tryz.prog W = .ok (.bool (decide (c = d))) W := by
  obtain ⟨i, hi, hcm⟩ := info_some (P := Tryz.prog) (t := 166) (f := (·.comparable)) (x := true) (by kernel_rfl)
  obtain ⟨j, hj, hjs⟩ := info_some (P := Tryz.prog) (t := 180) (f := (·.size)) (x := 1) (by kernel_rfl)
  by_cases e : c = d
  · subst e
    rw [decide_eq_true rfl]
    exact run_eql_iface_ptr_same W (ea c) Tryz.underlying45 Tryz.underlying166 hi hcm hj
  · rw [decide_eq_false e]
    obtain ⟨_, _, ca, ta, h1⟩ := h.1 c hc
    obtain ⟨_, _, cb, tb, h2⟩ := h.1 d hd
    exact run_eql_iface_ptr_other W Tryz.underlying45 Tryz.underlying166 hi hcm hj (by rw [hjs]; decide) (fun e' => e (h.inj c hc d hd e')) h1 h2
/-- an error as a value -/
def EV (ea : Int → Addr) (c : Int) : Value := if c = 0 then .nilIface else .iface 166 (.pointer (some (ea c)))
set_option maxRecDepth 100000 in
theorem errs_of_laid {W : World} (h0 : laidMetH Tryz.prog laidV W) : ∃ ea, Errs ea W := by
  have h : laidMet Tryz.prog laidV W := h0
  obtain ⟨ps, ⟨g0, t0, cs0, f0, p0, q0, hg0, ht0, hv0, hd0, ⟨g1, t1, cs1, f1, p1, q1, hg1, ht1, hv1, hd1, ⟨g2, t2, cs2, f2, p2, q2, hg2, ht2, hv2, hd2, ⟨g3, t3, cs3, f3, p3, q3, hg3, ht3, hv3, hd3, ⟨g4, t4, cs4, f4, p4, q4, hg4, ht4, hv4, hd4, ⟨g5, t5, cs5, f5, p5, q5, hg5, ht5, hv5, hd5, ⟨g6, t6, cs6, f6, p6, q6, hg6, ht6, hv6, hd6, ⟨g7, t7, cs7, f7, p7, q7, hg7, ht7, hv7, hd7, ⟨g8, t8, cs8, f8, p8, q8, hg8, ht8, hv8, hd8, ⟨g9, t9, cs9, f9, p9, q9, hg9, ht9, hv9, hd9, hqz, e9⟩, e8⟩, e7⟩, e6⟩, e5⟩, e4⟩, e3⟩, e2⟩, e1⟩, e0⟩, hnd, hrows⟩ := h
  obtain rfl := Option.some.inj (g_1.symm.trans hg0)
  obtain rfl := Option.some.inj (t_1.symm.trans ht0)
  obtain rfl := Option.some.inj (g_8.symm.trans hg1)
  obtain rfl := Option.some.inj (t_8.symm.trans ht1)
  obtain rfl := Option.some.inj (g_9.symm.trans hg2)
  obtain rfl := Option.some.inj (t_9.symm.trans ht2)
  obtain rfl := Option.some.inj (g_10.symm.trans hg3)
  obtain rfl := Option.some.inj (t_10.symm.trans ht3)
  obtain rfl := Option.some.inj (g_11.symm.trans hg4)
  obtain rfl := Option.some.inj (t_11.symm.trans ht4)
  obtain rfl := Option.some.inj (g_12.symm.trans hg5)
  obtain rfl := Option.some.inj (t_12.symm.trans ht5)
  obtain rfl := Option.some.inj (g_rules.symm.trans hg6)
  obtain rfl := Option.some.inj (t_rules.symm.trans ht6)
  obtain rfl := Option.some.inj (g_hazards.symm.trans hg7)
  obtain rfl := Option.some.inj (t_hazards.symm.trans ht7)
  obtain rfl := Option.some.inj (g_heads.symm.trans hg8)
  obtain rfl := Option.some.inj (t_heads.symm.trans ht8)
  obtain rfl := Option.some.inj (g_tokenWords.symm.trans hg9)
  obtain rfl := Option.some.inj (t_tokenWords.symm.trans ht9)
  have hqz' : q9 = [] := hqz
  subst hqz'
  subst e9
  subst e8
  subst e7
  subst e6
  subst e5
  subst e4
  subst e3
  subst e2
  subst e1
  subst e0
  obtain ⟨l6⟩ := cs6
  obtain rfl : l6 = c_rules := cells_of_flt f_rules hd6
  have y6 : W.rangeAt 4 0 c_rules := fun n v hn => by
    have := World.var?_cell hg6 hv6 n
    rw [Nat.zero_add, this, ← hn]
    simp
  obtain ⟨l7⟩ := cs7
  obtain rfl : l7 = c_hazards := cells_of_flt f_hazards hd7
  have y7 : W.rangeAt 5 0 c_hazards := fun n v hn => by
    have := World.var?_cell hg7 hv7 n
    rw [Nat.zero_add, this, ← hn]
    simp
  obtain ⟨l8⟩ := cs8
  obtain rfl : l8 = c_heads := cells_of_flt f_heads hd8
  have y8 : W.rangeAt 6 0 c_heads := fun n v hn => by
    have := World.var?_cell hg8 hv8 n
    rw [Nat.zero_add, this, ← hn]
    simp
  obtain ⟨l9⟩ := cs9
  obtain rfl : l9 = c_tokenWords := cells_of_flt f_tokenWords hd9
  have y9 : W.rangeAt 7 0 c_tokenWords := fun n v hn => by
    have := World.var?_cell hg9 hv9 n
    rw [Nat.zero_add, this, ← hn]
    simp
  obtain ⟨l0⟩ := cs0
  have ok0 : ∀ u v, l0 = [.iface u v] → Value.okWide Tryz.prog W .any 0 u v := fun u v e => by
    subst e
    exact (hrows (2) 0 (by simp [MemPlace.row])).2 u v (by simpa using World.var?_cell hg0 hv0 0)
  obtain ⟨a0, s0, rfl, hc0, hs0, hz0, rfl⟩ := errorString_of_trod Tryz.underlying45 row_err Tryz.underlying166 Tryz.underlying180 rfl rfl Tryz.underlying9 (by kernel_rfl) (by kernel_rfl) hd0 ok0
  have x0 : W.cell? ⟨2, 0, none⟩ = some (.iface 166 (.pointer (some a0))) := by simpa using World.var?_cell hg0 hv0 0
  obtain ⟨l1⟩ := cs1
  have ok1 : ∀ u v, l1 = [.iface u v] → Value.okWide Tryz.prog W .any 0 u v := fun u v e => by
    subst e
    exact (hrows (1) 0 (by simp [MemPlace.row])).2 u v (by simpa using World.var?_cell hg1 hv1 0)
  obtain ⟨a1, s1, rfl, hc1, hs1, hz1, rfl⟩ := errorString_of_trod Tryz.underlying45 row_err Tryz.underlying166 Tryz.underlying180 rfl rfl Tryz.underlying9 (by kernel_rfl) (by kernel_rfl) hd1 ok1
  have x1 : W.cell? ⟨1, 0, none⟩ = some (.iface 166 (.pointer (some a1))) := by simpa using World.var?_cell hg1 hv1 0
  obtain ⟨l2⟩ := cs2
  have ok2 : ∀ u v, l2 = [.iface u v] → Value.okWide Tryz.prog W .any 0 u v := fun u v e => by
    subst e
    exact (hrows (0) 0 (by simp [MemPlace.row])).2 u v (by simpa using World.var?_cell hg2 hv2 0)
  obtain ⟨a2, s2, rfl, hc2, hs2, hz2, rfl⟩ := errorString_of_trod Tryz.underlying45 row_err Tryz.underlying166 Tryz.underlying180 rfl rfl Tryz.underlying9 (by kernel_rfl) (by kernel_rfl) hd2 ok2
  have x2 : W.cell? ⟨0, 0, none⟩ = some (.iface 166 (.pointer (some a2))) := by simpa using World.var?_cell hg2 hv2 0
  obtain ⟨l3⟩ := cs3
  have ok3 : ∀ u v, l3 = [.iface u v] → Value.okWide Tryz.prog W .any 0 u v := fun u v e => by
    subst e
    exact (hrows (8) 0 (by simp [MemPlace.row])).2 u v (by simpa using World.var?_cell hg3 hv3 0)
  obtain ⟨a3, s3, rfl, hc3, hs3, hz3, rfl⟩ := errorString_of_trod Tryz.underlying45 row_err Tryz.underlying166 Tryz.underlying180 rfl rfl Tryz.underlying9 (by kernel_rfl) (by kernel_rfl) hd3 ok3
  have x3 : W.cell? ⟨8, 0, none⟩ = some (.iface 166 (.pointer (some a3))) := by simpa using World.var?_cell hg3 hv3 0
  obtain ⟨l4⟩ := cs4
  have ok4 : ∀ u v, l4 = [.iface u v] → Value.okWide Tryz.prog W .any 0 u v := fun u v e => by
    subst e
    exact (hrows (9) 0 (by simp [MemPlace.row])).2 u v (by simpa using World.var?_cell hg4 hv4 0)
  obtain ⟨a4, s4, rfl, hc4, hs4, hz4, rfl⟩ := errorString_of_trod Tryz.underlying45 row_err Tryz.underlying166 Tryz.underlying180 rfl rfl Tryz.underlying9 (by kernel_rfl) (by kernel_rfl) hd4 ok4
  have x4 : W.cell? ⟨9, 0, none⟩ = some (.iface 166 (.pointer (some a4))) := by simpa using World.var?_cell hg4 hv4 0
  obtain ⟨l5⟩ := cs5
  have ok5 : ∀ u v, l5 = [.iface u v] → Value.okWide Tryz.prog W .any 0 u v := fun u v e => by
    subst e
    exact (hrows (3) 0 (by simp [MemPlace.row])).2 u v (by simpa using World.var?_cell hg5 hv5 0)
  obtain ⟨a5, s5, rfl, hc5, hs5, hz5, rfl⟩ := errorString_of_trod Tryz.underlying45 row_err Tryz.underlying166 Tryz.underlying180 rfl rfl Tryz.underlying9 (by kernel_rfl) (by kernel_rfl) hd5 ok5
  have x5 : W.cell? ⟨3, 0, none⟩ = some (.iface 166 (.pointer (some a5))) := by simpa using World.var?_cell hg5 hv5 0
  refine ⟨fun c => if c = 1 then a0 else if c = 8 then a1 else if c = 9 then a2 else if c = 10 then a3 else if c = 11 then a4 else if c = 12 then a5 else a0, fun c hc => ?_, ⟨y6, y7, y8, y9⟩⟩
  simp only [ecs, List.mem_cons, List.not_mem_nil, or_false] at hc
  rcases hc with rfl | rfl | rfl | rfl | rfl | rfl
  · exact ⟨x0, ⟨s0, hc0, hs0⟩, (hrows a0.block a0.off (by simp [MemPlace.row])).1⟩
  · exact ⟨x1, ⟨s1, hc1, hs1⟩, (hrows a1.block a1.off (by simp [MemPlace.row])).1⟩
  · exact ⟨x2, ⟨s2, hc2, hs2⟩, (hrows a2.block a2.off (by simp [MemPlace.row])).1⟩
  · exact ⟨x3, ⟨s3, hc3, hs3⟩, (hrows a3.block a3.off (by simp [MemPlace.row])).1⟩
  · exact ⟨x4, ⟨s4, hc4, hs4⟩, (hrows a4.block a4.off (by simp [MemPlace.row])).1⟩
  · exact ⟨x5, ⟨s5, hc5, hs5⟩, (hrows a5.block a5.off (by simp [MemPlace.row])).1⟩
end Go.Proofs.YtpfidohkohldaaaGreatDoor
namespace Go.Proofs.YtpfidohkohldaaaGreatDoor
set_option linter.unusedSimpArgs false
set_option linter.unusedVariables false
set_option maxRecDepth 100000
open Go.ChangeShapes Go.WideShapes Go.ChangeAt Go.RowKit Go.Pin Go.Pat
/-- a row of nine marks -/
def rv (x : List Bool) : Value := .agg (x.map Value.bool).toArray
theorem nine {x : List Bool} (h : x.length = 9) : ∃ a b c d e f g i j, x = [a, b, c, d, e, f, g, i, j] := by
  match x, h with
  | [a, b, c, d, e, f, g, i, j], _ => exact ⟨a, b, c, d, e, f, g, i, j, rfl⟩
def wN (x y : List Bool) (i : Nat) : List Bool := (List.zipWith and x y).take i ++ x.drop i
def bc (x : List Bool) : Array Value := (x.map Value.bool).toArray
set_option maxHeartbeats 4000000 in
theorem within_any (x y : List Bool) (hx : x.length = 9) (hy : y.length = 9) (w : World) :
    Calls Tryz.prog 64 #[rv x, rv y] w fun e w' => e = .returned (rv (List.zipWith and x y)) ∧ Below w.heap.size w w' := by
  obtain ⟨a0, a1, a2, a3, a4, a5, a6, a7, a8, rfl⟩ := nine hx
  obtain ⟨c0, c1, c2, c3, c4, c5, c6, c7, c8, rfl⟩ := nine hy
  obtain ⟨n, hn⟩ : ∃ n, w.heap.size = n := ⟨_, rfl⟩
  simp only [rv, List.map_cons, List.map_nil]
  clear hx hy
  go_enter Tryz.func64, Tryz.ntmps64
  go_wp2
  go_loopw [6] (fun v6 wr => ∃ i : Nat, i ≤ 9 ∧ v6 = .int .i64 i ∧ wr = ((w.alloc (.cells (bc (wN [a0, a1, a2, a3, a4, a5, a6, a7, a8] [c0, c1, c2, c3, c4, c5, c6, c7, c8] i)) 80)).alloc (.cells (bc [c0, c1, c2, c3, c4, c5, c6, c7, c8]) 80)).alloc (.cells (bc [false, false, false, false, false, false, false, false, false]) 80)) (fun v _ => 9 - (intOf v).toNat)
  case atStart => exact ⟨0, Nat.zero_le _, rfl, rfl⟩
  case round =>
    obtain ⟨i, hi, rfl, rfl⟩ := hrel
    match i, hi with
    | 0, _ =>
      simp only [wN, bc, List.zipWith, List.take, List.drop, List.map_cons, List.map_nil, List.cons_append, List.nil_append]
      cases a0 <;> go_wp2
      all_goals exact ⟨⟨1, by omega, rfl, rfl⟩, by decide⟩
    | 1, _ =>
      simp only [wN, bc, List.zipWith, List.take, List.drop, List.map_cons, List.map_nil, List.cons_append, List.nil_append]
      cases a1 <;> go_wp2
      all_goals exact ⟨⟨2, by omega, rfl, rfl⟩, by decide⟩
    | 2, _ =>
      simp only [wN, bc, List.zipWith, List.take, List.drop, List.map_cons, List.map_nil, List.cons_append, List.nil_append]
      cases a2 <;> go_wp2
      all_goals exact ⟨⟨3, by omega, rfl, rfl⟩, by decide⟩
    | 3, _ =>
      simp only [wN, bc, List.zipWith, List.take, List.drop, List.map_cons, List.map_nil, List.cons_append, List.nil_append]
      cases a3 <;> go_wp2
      all_goals exact ⟨⟨4, by omega, rfl, rfl⟩, by decide⟩
    | 4, _ =>
      simp only [wN, bc, List.zipWith, List.take, List.drop, List.map_cons, List.map_nil, List.cons_append, List.nil_append]
      cases a4 <;> go_wp2
      all_goals exact ⟨⟨5, by omega, rfl, rfl⟩, by decide⟩
    | 5, _ =>
      simp only [wN, bc, List.zipWith, List.take, List.drop, List.map_cons, List.map_nil, List.cons_append, List.nil_append]
      cases a5 <;> go_wp2
      all_goals exact ⟨⟨6, by omega, rfl, rfl⟩, by decide⟩
    | 6, _ =>
      simp only [wN, bc, List.zipWith, List.take, List.drop, List.map_cons, List.map_nil, List.cons_append, List.nil_append]
      cases a6 <;> go_wp2
      all_goals exact ⟨⟨7, by omega, rfl, rfl⟩, by decide⟩
    | 7, _ =>
      simp only [wN, bc, List.zipWith, List.take, List.drop, List.map_cons, List.map_nil, List.cons_append, List.nil_append]
      cases a7 <;> go_wp2
      all_goals exact ⟨⟨8, by omega, rfl, rfl⟩, by decide⟩
    | 8, _ =>
      simp only [wN, bc, List.zipWith, List.take, List.drop, List.map_cons, List.map_nil, List.cons_append, List.nil_append]
      cases a8 <;> go_wp2
      all_goals exact ⟨⟨9, by omega, rfl, rfl⟩, by decide⟩
    | 9, _ =>
      simp only [wN, bc, List.zipWith, List.take, List.drop, List.map_cons, List.map_nil, List.cons_append, List.nil_append]
      go_wp2
      refine bodyPost_ret (v := .agg (bc [a0 && c0, a1 && c1, a2 && c2, a3 && c3, a4 && c4, a5 && c5, a6 && c6, a7 && c7, a8 && c8])) ?_ rfl ⟨rfl, ?_⟩
      · exact results_cell_row (P := Tryz.prog) (fn := Tryz.f64) (p := 4) (ty := 80) rfl _ _ (n + 1 + 1) 80 _ (0, 0) _ (by rfl) (by simp only [heap_alloc_any, size_alloc, hn]; rw [if_pos trivial]; rfl) Tryz.underlying80 rfl (by kernel_rfl)
      · exact (((Below.refl _ _).alloc (Nat.le_refl _) _).alloc (by simp) _).alloc (by simp; omega) _
end Go.Proofs.YtpfidohkohldaaaGreatDoor
/- a drawn region whose own operations only read and whose calls leave a world of a class R: ONE walk, in the text's order; of no dump -/
namespace Go.Pin
theorem wp_region_cls {P : Program} (R : World → Prop) {id : Nat} {Q : Exit → Act → World → Prop} {a : Act} {w : World} {l : List Oper} (hm : P.follows .mixedOrders = true) (hB : Region.lexB .any l.toArray = true) (hC : R { w with drawn := w.drawn + 1 })
    (h : ∀ (S : Type) (f : S → World), Nonempty S → (∀ x, R (f x)) → (∀ Y, R Y → ∃ x, Y = f x) → wpQuiet P l.toArray (fun w' => ∃ x, w' = f x) (fun a' => ∀ w', (∃ x, w' = f x) → Q .normal a' w') l a) : (Code.region id l.toArray true).wp P Q a w := by
  have := h {w // R w} Subtype.val ⟨⟨_, hC⟩⟩ (fun x => x.2) (fun Y hY => ⟨⟨Y, hY⟩, rfl⟩)
  exact wp_region_quiet (C := fun w' => ∃ x : {w // R w}, w' = x.val) hm hB ⟨⟨_, hC⟩, rfl⟩ (by simpa using this)
theorem quiet_load {P : Program} {o : Oper} {a : Act} {S : Type} {f : S → World} {K : Act → Prop} (ty : TypeId) (x : Operand) (ho : o.op = .load ty x) (p : Value) (hx : a.eval x = p) (v : Value) (h : ∀ s, (Instr.loadAt ty p).run P (f s) = .ok v (f s)) (hk : K (a.put o.dst v)) : o.quiet P a (fun w' => ∃ x, w' = f x) K :=
  ⟨v, fun w hw => by
    obtain ⟨s, rfl⟩ := hw
    unfold Oper.quietAt execOp
    simp only [ho, hx, Sem.run_bind, Sem.run_pure, Result.andThen_ok, h s]
    exact ⟨rfl, rfl⟩, hk⟩
end Go.Pin
