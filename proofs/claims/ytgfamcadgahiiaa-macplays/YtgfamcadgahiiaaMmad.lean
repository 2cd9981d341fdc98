import Derived.Laws.IdiomCopy
import Derived.Lib.SliceRun
import Derived.Laws.Cover3
import Derived.Deep.RegionHeld3
import Derived.Test.YtgfamcadgahiiaaChecked
import Derived.Test.YtgfamcadgahiiaaMmac
import Derived.Test.YtgfamcadgahiiaaMmaa
import Derived.Test.YtgfamcadgahiiaaMmab
namespace Go.Proofs.Ytgfamcadgahiiaa
set_option linter.unusedSimpArgs false
open Go.ChangeShapes Go.WideShapes Go.ChangeAt Go.RowKit Go.Pin Go.Prm
/-- a Recorder and boxes beside it, all from B on -/
structure Env (B : Nat) (w : World) (R : Nat) (l : List (Int × Int)) (bx : List (Nat × Obj)) (wr : World) : Prop where
  old : Below B w wr
  ex : ∃ vs, Rec B wr R vs l ∧ ∀ p ∈ bx, wr.heap[p.1]? = some p.2 ∧ ¬ Blk R vs p.1
  ge : ∀ p ∈ bx, B ≤ p.1
theorem heap_lt {w : World} {g : Nat} {o : Obj} (h : w.heap[g]? = some o) : g < w.heap.size := (Array.getElem?_eq_some_iff.1 h).1
theorem Env.below {B : Nat} {w : World} {R : Nat} {l : List (Int × Int)} {bx : List (Nat × Obj)} {wr w' : World} (h : Env B w R l bx wr) (hb : Below wr.heap.size wr w') : Env B w R l bx w' := by
  obtain ⟨h1, ⟨vs, h2, h3⟩, h4⟩ := h
  exact ⟨h1.trans (hb.mono (by have := h2.1; have := h2.lt R (.inl rfl); omega)), ⟨vs, h2.below hb, fun p hp => ⟨(hb.block _ (heap_lt (h3 p hp).1)).trans (h3 p hp).1, (h3 p hp).2⟩⟩, h4⟩
theorem Env.new {B : Nat} {w : World} {R : Nat} {l : List (Int × Int)} {bx : List (Nat × Obj)} {wr : World} (h : Env B w R l bx wr) (x : Obj) : Env B w R l ((wr.heap.size, x) :: bx) (wr.alloc x) := by
  have hb : Below wr.heap.size wr (wr.alloc x) := (Below.refl _ _).alloc (Nat.le_refl _) _
  obtain ⟨h1, ⟨vs, h2, h3⟩, h4⟩ := h.below hb
  obtain ⟨g1, ⟨us, g2, g3⟩, g4⟩ := h
  refine ⟨h1, ⟨us, g2.below hb, fun p hp => ?_⟩, fun p hp => ?_⟩
  · rcases List.mem_cons.1 hp with rfl | hp
    · exact ⟨by simp only [heap_alloc_any, if_true], fun hk => by have := g2.lt _ hk; simp at this⟩
    · exact ⟨(hb.block _ (heap_lt (g3 p hp).1)).trans (g3 p hp).1, (g3 p hp).2⟩
  · rcases List.mem_cons.1 hp with rfl | hp
    · have := g2.1; have := g2.lt R (.inl rfl); show B ≤ wr.heap.size; omega
    · exact h4 p hp
theorem Env.row {B : Nat} {w : World} {R : Nat} {l : List (Int × Int)} {bx : List (Nat × Obj)} {wr : World} (h : Env B w R l bx wr) {g : Nat} {x : Obj} (hp : (g, x) ∈ bx) : wr.heap[g]? = some x := by
  obtain ⟨_, h3⟩ := h.ex
  exact (h3.2 _ hp).1
theorem Env.lt {B : Nat} {w : World} {R : Nat} {l : List (Int × Int)} {bx : List (Nat × Obj)} {wr : World} (h : Env B w R l bx wr) {g : Nat} {x : Obj} (hp : (g, x) ∈ bx) : g < wr.heap.size := heap_lt (h.row hp)
theorem Env.logged {B : Nat} {w : World} {R : Nat} {vs : Value} {l : List (Int × Int)} {bx : List (Nat × Obj)} {x : Int × Int} {wr w' : World} (hr : Rec B wr R vs l) (hbx : ∀ p ∈ bx, wr.heap[p.1]? = some p.2 ∧ ¬ Blk R vs p.1) (h1 : Below B w wr) (h4 : ∀ p ∈ bx, B ≤ p.1) (hg : Logged B R vs l x wr w') : Env B w R (l ++ [x]) bx w' := by
  obtain ⟨vs', g1, g2, g3⟩ := hg
  refine ⟨h1.trans (g2.below hr.ge (by have := hr.1; have := hr.lt R (.inl rfl); omega)), ⟨vs', g1, fun p hp => ⟨(g2.block _ (heap_lt (hbx p hp).1) (hbx p hp).2).trans (hbx p hp).1, fun hk => ?_⟩⟩, h4⟩
  have hlt : p.1 < wr.heap.size := heap_lt (hbx p hp).1
  rcases hk with hk | hk
  · exact (hbx p hp).2 (.inl hk)
  · rcases g3 with g3 | ⟨g, g3, hge⟩
    · exact (hbx p hp).2 (.inr (g3 ▸ hk))
    · rw [g3] at hk; injection hk with hk; omega
theorem Env.op {B : Nat} {w : World} {R : Nat} {l : List (Int × Int)} {bx : List (Nat × Obj)} {wr : World} (h : Env B w R l bx wr) (hl : l.length ≤ 1000000) (v : Int) : ∃ Q, Opc (.pointer (some ⟨R, 0, none⟩)) v wr Q ∧ ∀ w', Opd Q wr w' → Env B w R (l ++ [(3, v)]) bx w' := by
  obtain ⟨h1, ⟨vs, h2, h3⟩, h4⟩ := h
  exact ⟨_, opc_rec v h2 hl, fun w' ho => Env.logged h2 h3 h1 h4 (Opd.rec h2 ho)⟩
section
variable {B : Nat} {w : World} {R : Nat} {l : List (Int × Int)} {bx : List (Nat × Obj)} {wr : World} (h : Env B w R l bx wr) (hl : l.length ≤ 1000000) {a b : List Int} (ha : Lim a) (hb : Lim b)
include h hl ha hb
theorem e_add : Calls Try.prog 54 #[.pointer (some ⟨R, 0, none⟩), .agg (VI .u64 a), .agg (VI .u64 b)] wr fun e w' => e = .returned (.agg (VI .u64 (stl (List.zipWith (· + ·) a b)))) ∧ Env B w R (l ++ [(3, 11)]) bx w' := by
  obtain ⟨Q, h1, h2⟩ := h.op hl 11
  exact (add_any _ a b ha hb wr Q h1).mono fun e w' hh => ⟨hh.1, h2 w' hh.2⟩
theorem e_mul : Calls Try.prog 53 #[.pointer (some ⟨R, 0, none⟩), .agg (VI .u64 a), .agg (VI .u64 b)] wr fun e w' => e = .returned (.agg (VI .u64 (prod a b))) ∧ Env B w R (l ++ [(3, 12)]) bx w' := by
  obtain ⟨Q, h1, h2⟩ := h.op hl 12
  exact (mul_any _ a b ha hb wr Q h1).mono fun e w' hh => ⟨hh.1, h2 w' hh.2⟩
end
theorem e_total {B : Nat} {w : World} {R : Nat} {l : List (Int × Int)} {bx : List (Nat × Obj)} {wr : World} (h : Env B w R l bx wr) : Calls Try.prog 11 #[.pointer (some ⟨R, 0, none⟩)] wr fun e w' => e = .returned (.int .i64 l.length) ∧ w' = wr := by
  obtain ⟨vs, h2, _⟩ := h.ex
  exact total_any _ vs l wr h2.opt
theorem e_new (w : World) : Env w.heap.size w w.heap.size [] [] (w.alloc (.cells #[.slice none 0 0, .int .i64 0] 78)) :=
  ⟨(Below.refl _ _).alloc (Nat.le_refl _) _, ⟨_, rec_new w, by simp⟩, by simp⟩
theorem lim_of (x0 x1 x2 x3 x4 : Int) (h : decide (0 ≤ x0 ∧ x0 < 134217728 ∧ 0 ≤ x1 ∧ x1 < 134217728 ∧ 0 ≤ x2 ∧ x2 < 134217728 ∧ 0 ≤ x3 ∧ x3 < 134217728 ∧ 0 ≤ x4 ∧ x4 < 134217728) = true) : Lim [x0, x1, x2, x3, x4] := by
  have := of_decide_eq_true h
  refine ⟨rfl, ?_⟩
  simp only [List.mem_cons, List.not_mem_nil, or_false, forall_eq_or_imp, forall_eq]
  omega
theorem block_is {f a l : Int} {x : List Int} (hk : Key17 (rw17 f a l)) (h : blk (rw17 f a l) = x) (w : World) : Calls Try.prog 49 #[.agg (VI .u8 (rw17 f a l))] w fun e w' => e = .returned (.agg (VI .u64 x)) ∧ Below w.heap.size w w' := by
  have := block_any _ hk w
  rw [h] at this
  exact this
theorem bytes_is {x b : List Int} (hx : Lim x) (hn : bts (num x) = b) (w : World) : Calls Try.prog 55 #[.agg (VI .u64 x)] w fun e w' => e = .returned (.agg (VI .u8 b)) ∧ Below w.heap.size w w' := by
  have := bytes_any x hx w
  rw [hn] at this
  exact this
theorem sum_is {x s b : List Int} (hx : Lim x) (hs : Key16 s) (hn : smt (bts (num x)) s = b) (w : World) : Calls Try.prog 39 #[.agg (VI .u64 x), .agg (VI .u8 s)] w fun e w' => e = .returned (.agg (VI .u8 b)) ∧ Below w.heap.size w w' := by
  have := sum_any x s hx hs w
  rw [hn] at this
  exact this
theorem clamp_is {k x : List Int} (hk : Key16 k) (h : blk (clp k ++ [0]) = x) (w : World) : Calls Try.prog 31 #[.agg (VI .u8 k)] w fun e w' => e = .returned (.agg (VI .u64 x)) ∧ Below w.heap.size w w' := by
  have := clamp_any k hk w
  rw [h] at this
  exact this
theorem eq17 {a b : List Int} (ha : a.length = 17) (hb : b.length = 17) (w : World) : (Op.equalIn 10000 67 (.agg (VI .u8 a)) (.agg (VI .u8 b))).run Try.prog w = .ok (a == b) w :=
  run_equalIn_row w 9998 67 5 .u8 17 a b ha hb Try.underlying67 Try.underlying5 size5
end Go.Proofs.Ytgfamcadgahiiaa
namespace Go.Prm
open Go
/-- bytes -/
abbrev Byt (l : List Int) : Prop := ∀ x ∈ l, 0 ≤ x ∧ x < 256
/-- a block's bytes, its end behind them, filled up -/
def blkOf (x : List Int) : List Int := x ++ 1 :: List.replicate (16 - x.length) 0
/-- a block comes to a sum -/
def wth (r s b : List Int) : List Int := prod (stl (List.zipWith (· + ·) s (blk b))) r
def accN (r : List Int) : Nat → List Int → List Int → List Int
  | 0, s, _ => s
  | n + 1, s, D => accN r n (wth r s (blkOf (D.take 16))) (D.drop 16)
/-- the whole blocks of D -/
def acc (r s D : List Int) : List Int := accN r (D.length / 16) s D
/-- what is behind them -/
def rst (D : List Int) : List Int := D.drop (16 * (D.length / 16))
/-- all blocks of D -/
def facc (r s D : List Int) : List Int := accN r ((D.length + 15) / 16) s D
theorem acc_short (r s : List Int) {D : List Int} (h : D.length < 16) : acc r s D = s ∧ rst D = D := by
  have e : D.length / 16 = 0 := by omega
  unfold acc rst
  rw [e]
  exact ⟨rfl, rfl⟩
theorem acc_step (r s : List Int) {D : List Int} (h : 16 ≤ D.length) : acc r s D = acc r (wth r s (blkOf (D.take 16))) (D.drop 16) ∧ rst D = rst (D.drop 16) := by
  have e : D.length / 16 = (D.drop 16).length / 16 + 1 := by rw [List.length_drop]; omega
  unfold acc rst
  rw [e]
  refine ⟨rfl, ?_⟩
  rw [List.drop_drop]
  congr 1
  omega
theorem facc_nil (r s : List Int) : facc r s [] = s := rfl
theorem facc_step (r s : List Int) {D : List Int} (h : 0 < D.length) : facc r s D = facc r (wth r s (blkOf (D.take 16))) (D.drop 16) := by
  have e : (D.length + 15) / 16 = ((D.drop 16).length + 15) / 16 + 1 := by rw [List.length_drop]; omega
  unfold facc
  rw [e]
  rfl
theorem rst_len (D : List Int) : (rst D).length = D.length % 16 := by
  unfold rst
  rw [List.length_drop]
  omega
theorem acc_app (r : List Int) : ∀ (n : Nat) (D s E : List Int), D.length ≤ n → acc r s (D ++ E) = acc r (acc r s D) (rst D ++ E) ∧ rst (D ++ E) = rst (rst D ++ E)
  | 0, D, s, E, h => by
    have : D = [] := List.length_eq_zero_iff.1 (by omega)
    subst this
    exact ⟨rfl, rfl⟩
  | n + 1, D, s, E, h => by
    by_cases hd : D.length < 16
    · rw [(acc_short r s hd).1, (acc_short r s hd).2]
      exact ⟨rfl, rfl⟩
    · have hd' : 16 ≤ D.length := by omega
      have hde : 16 ≤ (D ++ E).length := by rw [List.length_append]; omega
      have e1 : (D ++ E).take 16 = D.take 16 := by rw [List.take_append_of_le_length hd']
      have e2 : (D ++ E).drop 16 = D.drop 16 ++ E := by rw [List.drop_append_of_le_length hd']
      rw [(acc_step r s hde).1, (acc_step r s hde).2, e1, e2, (acc_step r s hd').1, (acc_step r s hd').2]
      exact acc_app r n (D.drop 16) _ E (by rw [List.length_drop]; omega)
theorem facc_eq (r : List Int) : ∀ (n : Nat) (D s : List Int), D.length ≤ n → facc r s D = if (rst D).length = 0 then acc r s D else wth r (acc r s D) (blkOf (rst D))
  | 0, D, s, h => by
    have : D = [] := List.length_eq_zero_iff.1 (by omega)
    subst this
    rfl
  | n + 1, D, s, h => by
    by_cases hd : D.length < 16
    · rw [(acc_short r s hd).1, (acc_short r s hd).2]
      by_cases h0 : D.length = 0
      · rw [if_pos h0]
        have : D = [] := List.length_eq_zero_iff.1 h0
        subst this
        rfl
      · rw [if_neg h0, facc_step r s (by omega), List.drop_eq_nil_of_le (by omega), List.take_of_length_le (by omega)]
        rfl
    · have hd' : 16 ≤ D.length := by omega
      rw [facc_step r s (by omega), (acc_step r s hd').1, (acc_step r s hd').2]
      exact facc_eq r n (D.drop 16) _ (by rw [List.length_drop]; omega)
theorem blkOf_len {x : List Int} (h : x.length ≤ 16) : (blkOf x).length = 17 := by simp [blkOf]; omega
theorem blkOf_byt {x : List Int} (h : Byt x) : Byt (blkOf x) := fun y hy => by
  simp only [blkOf, List.mem_append, List.mem_cons, List.mem_replicate] at hy
  rcases hy with hy | rfl | ⟨_, rfl⟩
  · exact h y hy
  · decide
  · decide
theorem blkOf_full {x : List Int} (h : x.length = 16) : blkOf x = x ++ [1] := by simp [blkOf, h]
theorem wth_lim {r s b : List Int} (hr : Lim r) (hs : Lim s) (hb : Byt b) : Lim (wth r s b) := prod_lim (add_lim hs (blk_lim hb)) hr
theorem num_wth {r s b : List Int} (hr : Lim r) (hs : Lim s) (hb : Byt b) : num (wth r s b) = (num s + nb b % P) % P * num r % P := by
  unfold wth
  rw [num_prod (add_lim hs (blk_lim hb)) hr, num_add hs (blk_lim hb), num_blk hb]
theorem accN_lim {r : List Int} (hr : Lim r) : ∀ (n : Nat) (s D : List Int), Lim s → Byt D → Lim (accN r n s D)
  | 0, _, _, hs, _ => hs
  | n + 1, _, _, hs, hD => accN_lim hr n _ _ (wth_lim hr hs (blkOf_byt (fun x hx => hD x (List.mem_of_mem_take hx)))) (fun x hx => hD x (List.mem_of_mem_drop hx))
theorem acc_lim {r s D : List Int} (hr : Lim r) (hs : Lim s) (hD : Byt D) : Lim (acc r s D) := accN_lim hr _ _ _ hs hD
theorem facc_lim {r s D : List Int} (hr : Lim r) (hs : Lim s) (hD : Byt D) : Lim (facc r s D) := accN_lim hr _ _ _ hs hD
theorem rst_byt {D : List Int} (hD : Byt D) : Byt (rst D) := fun x hx => hD x (List.mem_of_mem_drop hx)
def z5 : List Int := [0, 0, 0, 0, 0]
theorem z5_lim : Lim z5 := ⟨rfl, by decide⟩
/-- the multiplier, the mask -/
def rOf (key : List Int) : List Int := blk (clp (key.take 16) ++ [0])
def sOf (key : List Int) : List Int := key.drop 16
/-- the tag of D -/
def mtag (key D : List Int) : List Int := smt (bts (num (facc (rOf key) z5 D))) (sOf key)
theorem mtag_len (key D : List Int) : (mtag key D).length = 16 := smt_len _ _
theorem mtag_byt (key D : List Int) : Byt (mtag key D) := smt_bd _ _
theorem rOf_byt {key : List Int} (hl : key.length = 32) (h : Byt key) : Byt (clp (key.take 16) ++ [0]) := fun x hx => by
  rcases List.mem_append.1 hx with hx | hx
  · exact (clp_key (l := key.take 16) (by rw [List.length_take]; omega) (fun y hy => h y (List.mem_of_mem_take hy))).2 x hx
  · rw [List.mem_singleton.1 hx]; decide
theorem rOf_lim {key : List Int} (hl : key.length = 32) (h : Byt key) : Lim (rOf key) := blk_lim (rOf_byt hl h)
/-- what is logged -/
abbrev Lg := List (Int × Int)
def tkl : Lg := [(3, 11), (3, 12)]
def ifl (b : Bool) : Int × Int := (1, if b then 1 else 0)
def rnl : Nat → Lg
  | 0 => []
  | n + 1 => rnl n ++ (ifl true :: tkl)
def wlog (h n : Nat) : Lg :=
  (if 0 < h then
    (if h + n < 16 then [ifl true, (2, (h : Int)), (2, (n : Int)), ifl false, ifl false, ifl false]
     else [ifl true, (2, (h : Int)), (2, ((16 - h : Nat) : Int)), ifl true] ++ tkl ++ rnl ((h + n - 16) / 16) ++ [ifl false, ifl (decide (0 < (h + n) % 16))])
   else ifl false :: (rnl (n / 16) ++ [ifl false, ifl (decide (0 < n % 16))]))
def tlog (h : Nat) : Lg := if 0 < h then [ifl true, (2, (h : Int))] ++ tkl else [ifl false]
def olog : Nat → Nat → List Nat → Lg
  | h, _, [] => ifl false :: tlog h
  | h, i, n :: r => ifl true :: (2, (i : Int)) :: (wlog h n ++ olog ((h + n) % 16) (i + 1) r)
theorem rnl_len (n : Nat) : (rnl n).length = 3 * n := by
  induction n with
  | zero => rfl
  | succ n ih => simp [rnl, ih, tkl]; omega
theorem wlog_len (h n : Nat) (hh : h < 16) : (wlog h n).length ≤ 20 + n := by
  unfold wlog
  split
  · split
    · simp; omega
    · simp [rnl_len, tkl]; omega
  · simp [rnl_len]; omega
theorem tlog_len (h : Nat) : (tlog h).length ≤ 4 := by unfold tlog; split <;> simp [tkl]
theorem olog_len : ∀ (l : List Nat) (h i : Nat), h < 16 → (olog h i l).length ≤ 5 + 22 * l.length + l.sum
  | [], h, i, _ => by have := tlog_len h; simp [olog]; omega
  | n :: r, h, i, hh => by
    have h1 := wlog_len h n hh
    have h2 := olog_len r ((h + n) % 16) (i + 1) (by omega)
    simp [olog]
    omega
end Go.Prm
namespace Go.Proofs.Ytgfamcadgahiiaa
set_option linter.unusedSimpArgs false
set_option linter.unusedVariables false
open Go.ChangeShapes Go.WideShapes Go.ChangeAt Go.RowKit Go.Pin Go.Prm
/-- a Recorder, or none, and boxes beside it, all from B on -/
structure Ev (B : Nat) (w : World) (rv : Value) (l : List (Int × Int)) (bx : List (Nat × Obj)) (wr : World) : Prop where
  old : Below B w wr
  le : B ≤ wr.heap.size
  ge : ∀ p ∈ bx, B ≤ p.1
  at' : ∀ p ∈ bx, wr.heap[p.1]? = some p.2
  rc : rv = .pointer none ∨ ∃ R vs, rv = .pointer (some ⟨R, 0, none⟩) ∧ Rec B wr R vs l ∧ ∀ p ∈ bx, ¬ Blk R vs p.1
section
variable {B : Nat} {w : World} {rv : Value} {l : List (Int × Int)} {bx : List (Nat × Obj)} {wr w' : World}
theorem Ev.row (h : Ev B w rv l bx wr) {g : Nat} {x : Obj} (hp : (g, x) ∈ bx) : wr.heap[g]? = some x := h.at' _ hp
theorem Ev.lt (h : Ev B w rv l bx wr) {g : Nat} {x : Obj} (hp : (g, x) ∈ bx) : g < wr.heap.size := heap_lt (h.row hp)
theorem Ev.below (h : Ev B w rv l bx wr) (hb : Below wr.heap.size wr w') : Ev B w rv l bx w' := by
  refine ⟨h.old.trans (hb.mono h.le), Nat.le_trans h.le hb.size, h.ge, fun p hp => (hb.block _ (heap_lt (h.at' p hp))).trans (h.at' p hp), ?_⟩
  rcases h.rc with e | ⟨R, vs, e, h2, h3⟩
  · exact .inl e
  · exact .inr ⟨R, vs, e, h2.below hb, h3⟩
theorem Ev.drew (h : Ev B w rv l bx wr) : Ev B w rv l bx wr.drew := h.below ⟨rfl, rfl, rfl, Nat.le_refl _, fun _ _ => rfl⟩
theorem Ev.sub (h : Ev B w rv l bx wr) {by' : List (Nat × Obj)} (hs : ∀ p ∈ by', p ∈ bx) : Ev B w rv l by' wr := by
  refine ⟨h.old, h.le, fun p hp => h.ge p (hs p hp), fun p hp => h.at' p (hs p hp), ?_⟩
  rcases h.rc with e | ⟨R, vs, e, h2, h3⟩
  · exact .inl e
  · exact .inr ⟨R, vs, e, h2, fun p hp => h3 p (hs p hp)⟩
theorem Ev.new (h : Ev B w rv l bx wr) (x : Obj) : Ev B w rv l ((wr.heap.size, x) :: bx) (wr.alloc x) := by
  have hb : Below wr.heap.size wr (wr.alloc x) := (Below.refl _ _).alloc (Nat.le_refl _) _
  have h' := h.below hb
  refine ⟨h'.old, h'.le, fun p hp => ?_, fun p hp => ?_, ?_⟩
  · rcases List.mem_cons.1 hp with rfl | hp
    · exact h.le
    · exact h.ge p hp
  · rcases List.mem_cons.1 hp with rfl | hp
    · simp only [heap_alloc_any, if_true]
    · exact h'.at' p hp
  · rcases h.rc with e | ⟨R, vs, e, h2, h3⟩
    · exact .inl e
    · refine .inr ⟨R, vs, e, h2.below hb, fun p hp => ?_⟩
      rcases List.mem_cons.1 hp with rfl | hp
      · intro hk; have := h2.lt _ hk; simp at this
      · exact h3 p hp
/-- a box is written, memory may be made -/
theorem Ev.set (h : Ev B w rv l bx wr) {g : Nat} {o y : Obj} {b2 : List (Nat × Obj)} (e : bx = (g, o) :: b2) (hne : ∀ p ∈ b2, p.1 ≠ g) (hb : Grow (fun k => k = g) wr w') (hy : w'.heap[g]? = some y) : Ev B w rv l ((g, y) :: b2) w' := by
  subst e
  have hg : B ≤ g := h.ge (g, o) (by simp)
  refine ⟨h.old.trans (hb.below (fun k hk => by omega) h.le), Nat.le_trans h.le hb.size, fun p hp => ?_, fun p hp => ?_, ?_⟩
  · rcases List.mem_cons.1 hp with rfl | hp
    · exact hg
    · exact h.ge p (by simp [hp])
  · rcases List.mem_cons.1 hp with rfl | hp
    · exact hy
    · exact (hb.block _ (heap_lt (h.at' p (by simp [hp]))) (hne p hp)).trans (h.at' p (by simp [hp]))
  · rcases h.rc with e | ⟨R, vs, e, h2, h3⟩
    · exact .inl e
    · refine .inr ⟨R, vs, e, h2.grow hb (fun k hk hn => by subst hn; exact h3 (k, o) (by simp) hk), fun p hp => ?_⟩
      rcases List.mem_cons.1 hp with rfl | hp
      · exact h3 (g, o) (by simp)
      · exact h3 p (by simp [hp])
end
set_option maxRecDepth 100000 in
theorem rAt_any (B R : Nat) (vs : Value) (l : List (Int × Int)) (v : Int) (w : World) (h : Rec B w R vs l) (hl : l.length ≤ 1000000) :
    Calls Try.prog 37 #[.pointer (some ⟨R, 0, none⟩), .int .i64 v] w fun e w' => e = .returned (.int .i64 v) ∧ Logged B R vs l (2, v) w w' := by
  have HR : Hid _ := h
  have HL : Hid _ := hl
  clear h hl
  go_enter Try.func37, Try.ntmps37
  go_wp2_with (first | (go_at_call 52; refine (rlog_any B R vs l _ _ _ HR.out HL.out).mono ?_; rintro e w' ⟨rfl, hw⟩))
  go_ret
  exact ⟨rfl, hw⟩
set_option maxRecDepth 100000 in
theorem rIf_any (B R : Nat) (vs : Value) (l : List (Int × Int)) (b : Bool) (w : World) (h : Rec B w R vs l) (hl : l.length ≤ 1000000) :
    Calls Try.prog 36 #[.pointer (some ⟨R, 0, none⟩), .bool b] w fun e w' => e = .returned (.bool b) ∧ Logged B R vs l (1, if b then 1 else 0) w w' := by
  have HR : Hid _ := h
  have HL : Hid _ := hl
  clear h hl
  cases b
  all_goals
    go_enter Try.func36, Try.ntmps36
    go_wp2_with (first | (go_at_call 52; refine (rlog_any B R vs l _ _ _ HR.out HL.out).mono ?_; rintro e w' ⟨rfl, hw⟩))
    go_ret
    exact ⟨rfl, hw⟩
set_option maxRecDepth 100000 in
theorem rIf_nil (b : Bool) (w : World) : Calls Try.prog 36 #[.pointer none, .bool b] w fun e w' => e = .returned (.bool b) ∧ w' = w := by
  cases b
  all_goals
    go_enter Try.func36, Try.ntmps36
    go_wp2_with (first | (go_at_call 52; refine (rlog_nil _ _ _).mono ?_; rintro e w' ⟨rfl, rfl⟩))
    go_ret
    exact ⟨rfl, rfl⟩
set_option maxRecDepth 100000 in
theorem rAt_nil (v : Int) (w : World) : Calls Try.prog 37 #[.pointer none, .int .i64 v] w fun e w' => e = .returned (.int .i64 v) ∧ w' = w := by
  go_enter Try.func37, Try.ntmps37
  go_wp2_with (first | (go_at_call 52; refine (rlog_nil _ _ _).mono ?_; rintro e w' ⟨rfl, rfl⟩))
  go_ret
  exact ⟨rfl, rfl⟩
section
variable {B : Nat} {w : World} {rv : Value} {l : List (Int × Int)} {bx : List (Nat × Obj)} {wr : World}
/-- what logs an event if there is a Recorder, and does nothing if there is none -/
theorem Ev.logs (h : Ev B w rv l bx wr) (f : Nat) (x : Value) (ret : Value) (ev : Int × Int)
    (h0 : rv = .pointer none → Calls Try.prog f #[.pointer none, x] wr fun e w' => e = .returned ret ∧ w' = wr)
    (h1 : ∀ R vs, rv = .pointer (some ⟨R, 0, none⟩) → Rec B wr R vs l → Calls Try.prog f #[.pointer (some ⟨R, 0, none⟩), x] wr fun e w' => e = .returned ret ∧ Logged B R vs l ev wr w') :
    Calls Try.prog f #[rv, x] wr fun e w' => e = .returned ret ∧ Ev B w rv (l ++ [ev]) bx w' := by
  rcases h.rc with e | ⟨R, vs, e, h2, h3⟩
  · rw [e]
    refine (h0 e).mono ?_
    rintro _ w' ⟨rfl, rfl⟩
    exact ⟨rfl, h.old, h.le, h.ge, h.at', .inl rfl⟩
  · rw [e]
    refine (h1 R vs e h2).mono ?_
    rintro _ w' ⟨rfl, vs', g1, g2, g3⟩
    refine ⟨rfl, h.old.trans (g2.below h2.ge h.le), Nat.le_trans h.le g2.size, h.ge, fun p hp => (g2.block _ (heap_lt (h.at' p hp)) (h3 p hp)).trans (h.at' p hp), .inr ⟨R, vs', rfl, g1, fun p hp hk => ?_⟩⟩
    have hlt : p.1 < wr.heap.size := heap_lt (h.at' p hp)
    rcases hk with hk | hk
    · exact h3 p hp (.inl hk)
    · rcases g3 with g3 | ⟨g, g3, hge⟩
      · exact h3 p hp (.inr (g3 ▸ hk))
      · rw [g3] at hk; injection hk with hk; omega
theorem v_op (h : Ev B w rv l bx wr) (hl : rv ≠ .pointer none → l.length ≤ 1000000) (v : Int) : Calls Try.prog 61 #[rv, .int .i64 v] wr fun e w' => e = .returned (.tuple #[]) ∧ Ev B w rv (l ++ [(3, v)]) bx w' :=
  h.logs _ _ _ _ (fun _ => rOp_nil v wr) (fun R vs e hr => rOp_any B R vs l v wr hr (hl (by rw [e]; intro k; cases k)))
theorem v_at (h : Ev B w rv l bx wr) (hl : rv ≠ .pointer none → l.length ≤ 1000000) (v : Int) : Calls Try.prog 37 #[rv, .int .i64 v] wr fun e w' => e = .returned (.int .i64 v) ∧ Ev B w rv (l ++ [(2, v)]) bx w' :=
  h.logs _ _ _ _ (fun _ => rAt_nil v wr) (fun R vs e hr => rAt_any B R vs l v wr hr (hl (by rw [e]; intro k; cases k)))
theorem v_if (h : Ev B w rv l bx wr) (hl : rv ≠ .pointer none → l.length ≤ 1000000) (b : Bool) : Calls Try.prog 36 #[rv, .bool b] wr fun e w' => e = .returned (.bool b) ∧ Ev B w rv (l ++ [(1, if b then 1 else 0)]) bx w' :=
  h.logs _ _ _ _ (fun _ => rIf_nil b wr) (fun R vs e hr => rIf_any B R vs l b wr hr (hl (by rw [e]; intro k; cases k)))
theorem ev_nil (w : World) (bx : List (Nat × Obj)) (h : ∀ p ∈ bx, w.heap[p.1]? = some p.2) (l : List (Int × Int)) : Ev 0 w (.pointer none) l bx w :=
  ⟨Below.refl _ _, Nat.zero_le _, fun _ _ => Nat.zero_le _, h, .inl rfl⟩
theorem ev_nil' (w : World) : Ev w.heap.size w (.pointer none) [] [] w :=
  ⟨Below.refl _ _, Nat.le_refl _, by simp, by simp, .inl rfl⟩
theorem ev_new (w : World) : Ev w.heap.size w (.pointer (some ⟨w.heap.size, 0, none⟩)) [] [] (w.alloc (.cells #[.slice none 0 0, .int .i64 0] 78)) :=
  ⟨(Below.refl _ _).alloc (Nat.le_refl _) _, by simp, by simp, by simp, .inr ⟨_, _, rfl, rec_new w, by simp⟩⟩
/-- without a Recorder the log is any one; the boxes another Recorder's -/
theorem Ev.nilOf (h : Ev B w rv l bx wr) (m : List (Int × Int)) : Ev B w (.pointer none) m bx wr := ⟨h.old, h.le, h.ge, h.at', .inl rfl⟩
end

section
variable {B : Nat} {w : World} {rv : Value} {l : List (Int × Int)} {bx : List (Nat × Obj)} {wr : World}
theorem Ev.op (h : Ev B w rv l bx wr) (hl : rv ≠ .pointer none → l.length ≤ 1000000) (v : Int) : ∃ Q, Opc rv v wr Q ∧ ∀ w', Opd Q wr w' → Ev B w rv (l ++ [(3, v)]) bx w' := by
  rcases h.rc with e | ⟨R, vs, e, h2, h3⟩
  · subst e
    refine ⟨_, opc_nil v wr, fun w' ho => ?_⟩
    have h' := h.below ho.nil
    exact ⟨h'.old, h'.le, h'.ge, h'.at', .inl rfl⟩
  · subst e
    refine ⟨_, opc_rec v h2 (hl (by intro k; cases k)), fun w' ho => ?_⟩
    obtain ⟨vs', g1, g2, g3⟩ := Opd.rec h2 ho
    refine ⟨h.old.trans (g2.below h2.ge h.le), Nat.le_trans h.le g2.size, h.ge, fun p hp => (g2.block _ (heap_lt (h.at' p hp)) (h3 p hp)).trans (h.at' p hp), .inr ⟨R, vs', rfl, g1, fun p hp hk => ?_⟩⟩
    have hlt : p.1 < wr.heap.size := heap_lt (h.at' p hp)
    rcases hk with hk | hk
    · exact h3 p hp (.inl hk)
    · rcases g3 with g3 | ⟨g, g3, hge⟩
      · exact h3 p hp (.inr (g3 ▸ hk))
      · rw [g3] at hk; injection hk with hk; omega
theorem v_add (h : Ev B w rv l bx wr) (hl : rv ≠ .pointer none → l.length ≤ 1000000) {a b : List Int} (ha : Lim a) (hb : Lim b) : Calls Try.prog 54 #[rv, .agg (VI .u64 a), .agg (VI .u64 b)] wr fun e w' => e = .returned (.agg (VI .u64 (stl (List.zipWith (· + ·) a b)))) ∧ Ev B w rv (l ++ [(3, 11)]) bx w' := by
  obtain ⟨Q, h1, h2⟩ := h.op hl 11
  exact (add_any _ a b ha hb wr Q h1).mono fun e w' hh => ⟨hh.1, h2 w' hh.2⟩
theorem v_mul (h : Ev B w rv l bx wr) (hl : rv ≠ .pointer none → l.length ≤ 1000000) {a b : List Int} (ha : Lim a) (hb : Lim b) : Calls Try.prog 53 #[rv, .agg (VI .u64 a), .agg (VI .u64 b)] wr fun e w' => e = .returned (.agg (VI .u64 (prod a b))) ∧ Ev B w rv (l ++ [(3, 12)]) bx w' := by
  obtain ⟨Q, h1, h2⟩ := h.op hl 12
  exact (mul_any _ a b ha hb wr Q h1).mono fun e w' hh => ⟨hh.1, h2 w' hh.2⟩
theorem Ev.cast (h : Ev B w rv l bx wr) {l' : List (Int × Int)} (e : l = l') : Ev B w rv l' bx wr := e ▸ h
theorem Ev.fresh (h : Ev B w rv l bx wr) {W' : World} (hb : Below wr.heap.size wr W') {g : Nat} (hg : wr.heap.size ≤ g) {x : Obj} (hx : W'.heap[g]? = some x) : Ev B w rv l ((g, x) :: bx) W' := by
  have h' := h.below hb
  refine ⟨h'.old, h'.le, fun p hp => ?_, fun p hp => ?_, ?_⟩
  · rcases List.mem_cons.1 hp with rfl | hp
    · exact Nat.le_trans h.le hg
    · exact h.ge p hp
  · rcases List.mem_cons.1 hp with rfl | hp
    · exact hx
    · exact h'.at' p hp
  · rcases h.rc with e | ⟨R, vs, e, h2, h3⟩
    · exact .inl e
    · refine .inr ⟨R, vs, e, h2.below hb, fun p hp => ?_⟩
      rcases List.mem_cons.1 hp with rfl | hp
      · intro hk; have := h2.lt _ hk; simp only at this; omega
      · exact h3 p hp
end
/-! rows of any cells -/
theorem heap_setCells_row (g : Nat) {T : TypeId} : ∀ (q' q p t : List Value) (w : World), q'.length = q.length → w.heap[g]? = some (.cells (p ++ (q ++ t)).toArray T) → (w.setCells g p.length q').heap[g]? = some (.cells (p ++ (q' ++ t)).toArray T)
  | [], q, p, t, w, hl, h => by
    have : q = [] := List.length_eq_zero_iff.1 hl.symm
    subst this
    exact h
  | v :: r, [], p, t, w, hl, h => by simp at hl
  | v :: r, u :: q, p, t, w, hl, h => by
    have h1 : (w.setCell ⟨g, p.length, none⟩ v).heap[g]? = some (.cells ((p ++ [v]) ++ (q ++ t)).toArray T) := by
      rw [heap_setCell_same w _ _ _ _ _ h]
      congr 2
      simp [List.set_append]
    have := heap_setCells_row g r q (p ++ [v]) t _ (by simpa using hl) h1
    rw [World.setCells]
    simpa using this
theorem range_in {w : World} {g : Nat} {T : TypeId} {fr : Nat × Nat} {p q t : List Value} (h : w.heap[g]? = some (.cells (p ++ (q ++ t)).toArray T fr)) : w.rangeAt g p.length q := fun j v hv => by
  rw [cell_of_row w _ _ _ _ _ h]
  have hj := (List.getElem?_eq_some_iff.1 hv).1
  have e : (p ++ (q ++ t)).toArray[p.length + j]? = q[j]? := by simp [List.getElem?_append, hj, Nat.add_sub_cancel_left]
  rw [e, hv]
theorem there_in {w : World} {g : Nat} {T : TypeId} {p q t : List Value} (h : w.heap[g]? = some (.cells (p ++ (q ++ t)).toArray T (0, 0))) : w.there g p.length q.length := fun j hj => by
  refine ⟨?_, frozen_of_row w _ _ _ _ h⟩
  rw [range_in h j _ (List.getElem?_eq_getElem hj)]
  rfl
theorem but_setCells' (b : Nat) : ∀ (vs : List Value) (o : Nat) (w : World), But (fun k => k = b) w (w.setCells b o vs)
  | [], _, w => But.refl _ _
  | v :: r, o, w => by
    rw [World.setCells]
    exact But.trans ((But.refl (fun k => k = b) w).setCell (p := ⟨b, o, none⟩) rfl v) (but_setCells' b r _ _)
theorem grow_setCells (b : Nat) (vs : List Value) (o : Nat) (w : World) : Grow (fun k => k = b) w (w.setCells b o vs) := (Grow.refl _ w).but (but_setCells' b vs o w) (fun k hk => .inl hk)
/-! the Mac -/
def macL (rv : Value) (r m s b : List Int) (h : Nat) : List Value := rv :: (r.map (Value.int .u64) ++ (m.map (Value.int .u8) ++ (s.map (Value.int .u64) ++ (b.map (Value.int .u8) ++ [.int .i64 (h : Int)]))))
def macO (rv : Value) (r m s b : List Int) (h : Nat) : Obj := .cells (macL rv r m s b h).toArray 69
structure MS (r m s b : List Int) : Prop where
  r : Lim r
  m : Key16 m
  s : Lim s
  b : Key17 b
section
variable {w : World} {g : Nat} {rv : Value} {r m s b : List Int} {h : Nat}
theorem mac_r (hg : w.heap[g]? = some (macO rv r m s b h)) : w.cell? ⟨g, 0, none⟩ = some rv := by rw [cell_of_row w _ _ _ _ _ hg]; rfl
theorem mac_mul (hg : w.heap[g]? = some (macO rv r m s b h)) : w.rangeAt g 1 (r.map (Value.int .u64)) :=
  range_in (p := [rv]) (q := r.map (Value.int .u64)) (t := m.map (Value.int .u8) ++ (s.map (Value.int .u64) ++ (b.map (Value.int .u8) ++ [Value.int .i64 (h : Int)]))) (T := 69) (fr := (0, 0)) hg
theorem mac_cut2 (hr : r.length = 5) : macL rv r m s b h = (rv :: r.map (Value.int .u64)) ++ (m.map (Value.int .u8) ++ (s.map (Value.int .u64) ++ (b.map (Value.int .u8) ++ [.int .i64 (h : Int)]))) := rfl
theorem mac_mask (hr : r.length = 5) (hg : w.heap[g]? = some (macO rv r m s b h)) : w.rangeAt g 6 (m.map (Value.int .u8)) := by
  have := range_in (p := rv :: r.map (Value.int .u64)) (q := m.map (Value.int .u8)) (t := s.map (Value.int .u64) ++ (b.map (Value.int .u8) ++ [.int .i64 (h : Int)])) hg
  simpa [hr] using this
theorem mac_cut3 : macL rv r m s b h = (rv :: (r.map (Value.int .u64) ++ m.map (Value.int .u8))) ++ (s.map (Value.int .u64) ++ (b.map (Value.int .u8) ++ [.int .i64 (h : Int)])) := by simp [macL]
theorem mac_cut4 : macL rv r m s b h = (rv :: (r.map (Value.int .u64) ++ (m.map (Value.int .u8) ++ s.map (Value.int .u64)))) ++ (b.map (Value.int .u8) ++ [.int .i64 (h : Int)]) := by simp [macL]
theorem mac_cut5 : macL rv r m s b h = (rv :: (r.map (Value.int .u64) ++ (m.map (Value.int .u8) ++ (s.map (Value.int .u64) ++ b.map (Value.int .u8))))) ++ ([.int .i64 (h : Int)] ++ []) := by simp [macL]
theorem mac_sum (hr : r.length = 5) (hm : m.length = 16) (hg : w.heap[g]? = some (macO rv r m s b h)) : w.rangeAt g 22 (s.map (Value.int .u64)) := by
  have hg' := hg
  rw [macO, mac_cut3] at hg'
  have := range_in hg'
  simpa [hr, hm] using this
theorem mac_begun (hr : r.length = 5) (hm : m.length = 16) (hs : s.length = 5) (hg : w.heap[g]? = some (macO rv r m s b h)) : w.rangeAt g 27 (b.map (Value.int .u8)) := by
  have hg' := hg
  rw [macO, mac_cut4] at hg'
  have := range_in hg'
  simpa [hr, hm, hs] using this
theorem mac_held (hr : r.length = 5) (hm : m.length = 16) (hs : s.length = 5) (hb : b.length = 17) (hg : w.heap[g]? = some (macO rv r m s b h)) : w.cell? ⟨g, 44, none⟩ = some (.int .i64 (h : Int)) := by
  have hg' := hg
  rw [macO, mac_cut5] at hg'
  have := range_in hg' 0 (.int .i64 (h : Int)) rfl
  simpa [hr, hm, hs, hb] using this
theorem mac_froz (hg : w.heap[g]? = some (macO rv r m s b h)) (j : Nat) : w.frozen? ⟨g, j, none⟩ = false := frozen_of_row w _ _ _ _ hg
theorem mac_setS (hr : r.length = 5) (hm : m.length = 16) {s' : List Int} (hs : s'.length = s.length) (hg : w.heap[g]? = some (macO rv r m s b h)) : (w.setCells g 22 (s'.map (Value.int .u64))).heap[g]? = some (macO rv r m s' b h) := by
  have hg' := hg
  rw [macO, mac_cut3] at hg'
  have := heap_setCells_row g (s'.map (Value.int .u64)) _ _ _ w (by simpa using hs) hg'
  rw [← mac_cut3] at this
  have e : (rv :: (r.map (Value.int .u64) ++ m.map (Value.int .u8))).length = 22 := by simp [hr, hm]
  rw [e] at this
  exact this
theorem mac_setH (hr : r.length = 5) (hm : m.length = 16) (hs : s.length = 5) (hb : b.length = 17) (h' : Nat) (hg : w.heap[g]? = some (macO rv r m s b h)) : (w.setCell ⟨g, 44, none⟩ (.int .i64 (h' : Int))).heap[g]? = some (macO rv r m s b h') := by
  have hg' := hg
  rw [macO, mac_cut5] at hg'
  have := heap_setCells_row g [.int .i64 (h' : Int)] [.int .i64 (h : Int)] _ _ w rfl hg'
  rw [← mac_cut5] at this
  have e : (rv :: (r.map (Value.int .u64) ++ (m.map (Value.int .u8) ++ (s.map (Value.int .u64) ++ b.map (Value.int .u8))))).length = 44 := by simp [hr, hm, hs, hb]
  rw [e] at this
  exact this
/-- a piece of the bytes held is written -/
theorem mac_setB (hr : r.length = 5) (hm : m.length = 16) (hs : s.length = 5) {b0 b1 b2 b1' : List Int} (hb1 : b1'.length = b1.length) (hg : w.heap[g]? = some (macO rv r m s (b0 ++ (b1 ++ b2)) h)) : (w.setCells g (27 + b0.length) (b1'.map (Value.int .u8))).heap[g]? = some (macO rv r m s (b0 ++ (b1' ++ b2)) h) := by
  have cut : ∀ x : List Int, macL rv r m s (b0 ++ (x ++ b2)) h = ((rv :: (r.map (Value.int .u64) ++ (m.map (Value.int .u8) ++ s.map (Value.int .u64)))) ++ b0.map (Value.int .u8)) ++ (x.map (Value.int .u8) ++ (b2.map (Value.int .u8) ++ [.int .i64 (h : Int)])) := fun x => by simp [macL]
  have hg' := hg
  rw [macO, cut] at hg'
  have := heap_setCells_row g (b1'.map (Value.int .u8)) _ _ _ w (by simpa using hb1) hg'
  rw [← cut] at this
  have e : ((rv :: (r.map (Value.int .u64) ++ (m.map (Value.int .u8) ++ s.map (Value.int .u64)))) ++ b0.map (Value.int .u8)).length = 27 + b0.length := by simp [hr, hm, hs]; omega
  rw [e] at this
  exact this
end
/-! bytes that are read -/
def RdB (w : World) (v : Value) (D : List Int) : Prop :=
  ∃ a cap, v = .slice a D.length cap ∧ D.length ≤ cap ∧ (D = [] ∨ ∃ b o, a = some ⟨b, o, none⟩ ∧ w.rangeAt b o (D.map (Value.int .u8)))
/-- they are read in every world that has this memory -/
def Src (B : Nat) (w : World) (bx : List (Nat × Obj)) (v : Value) (D : List Int) : Prop :=
  ∃ a cap, v = .slice a D.length cap ∧ D.length ≤ cap ∧ (D = [] ∨ ∃ b o, a = some ⟨b, o, none⟩ ∧ ∀ W, Below B w W → (∀ q ∈ bx, W.heap[q.1]? = some q.2) → W.rangeAt b o (D.map (Value.int .u8)))
theorem Src.sub {B : Nat} {w : World} {bx by' : List (Nat × Obj)} {v : Value} {D : List Int} (h : Src B w bx v D) (hs : ∀ p ∈ bx, p ∈ by') : Src B w by' v D := by
  obtain ⟨a, cap, h1, h2, h3⟩ := h
  refine ⟨a, cap, h1, h2, ?_⟩
  rcases h3 with h3 | ⟨b, o, h3, h4⟩
  · exact .inl h3
  · exact .inr ⟨b, o, h3, fun W hW hq => h4 W hW (fun q hm => hq q (hs q hm))⟩
theorem rangeAt_block {w w' : World} {b o : Nat} {cs : List Value} (h : w.rangeAt b o cs) (hb : w'.heap[b]? = w.heap[b]?) : w'.rangeAt b o cs := fun j v hv => by
  rw [World.cell?_of_block (a := ⟨b, o + j, none⟩) hb]; exact h j v hv
theorem range_lt {w : World} {b o : Nat} {cs : List Value} (h : w.rangeAt b o cs) (h0 : 0 < cs.length) : b < w.heap.size := World.block_lt_of_cell? w _ (h 0 _ (List.getElem?_eq_getElem h0))
theorem RdB.src {w : World} {v : Value} {D : List Int} (h : RdB w v D) (bx : List (Nat × Obj)) : Src w.heap.size w bx v D := by
  obtain ⟨a, cap, h1, h2, h3⟩ := h
  refine ⟨a, cap, h1, h2, ?_⟩
  rcases h3 with h3 | ⟨b, o, h3, h4⟩
  · exact .inl h3
  · by_cases h0 : D = []
    · exact .inl h0
    · have hl := range_lt h4 (by rw [List.length_map]; exact List.length_pos_iff.2 h0)
      exact .inr ⟨b, o, h3, fun W hW _ => rangeAt_block h4 (hW.block b hl)⟩
theorem range_row' {W : World} {g : Nat} {L : List Int} {T : TypeId} {fr : Nat × Nat} (h : W.heap[g]? = some (.cells (VI .u8 L) T fr)) (o n : Nat) (ho : o + n ≤ L.length) : W.rangeAt g o (((L.drop o).take n).map (Value.int .u8)) := fun j v hv => by
  have hj : j < n := by have := (List.getElem?_eq_some_iff.1 hv).1; simp at this; omega
  rw [cell_of_row W _ _ _ _ _ h, VI_at _ _ _ (by omega), ← hv]
  simp [List.getElem?_take, hj, List.getElem?_drop, show o + j < L.length by omega]
/-- out of a box -/
theorem src_box {B : Nat} {w : World} {bx : List (Nat × Obj)} {g : Nat} {L : List Int} {T : TypeId} {fr : Nat × Nat} (hm : (g, Obj.cells (VI .u8 L) T fr) ∈ bx) (o n cap : Nat) (ho : o + n ≤ L.length) (hc : n ≤ cap) : Src B w bx (.slice (some ⟨g, o, none⟩) n cap) ((L.drop o).take n) := by
  have hl : ((L.drop o).take n).length = n := by simp; omega
  refine ⟨some ⟨g, o, none⟩, cap, by rw [hl], by rw [hl]; exact hc, .inr ⟨g, o, rfl, fun W _ hq => ?_⟩⟩
  exact range_row' (hq _ hm) o n ho
end Go.Proofs.Ytgfamcadgahiiaa
namespace Go.Proofs.Ytgfamcadgahiiaa
set_option linter.unusedSimpArgs false
set_option linter.unusedVariables false
open Go.ChangeShapes Go.WideShapes Go.ChangeAt Go.RowKit Go.Pin
/-! regions whose operations are a constant, frames that are a letter -/
def opsOf : Code → Array Oper
  | .region _ ops _ => ops
  | _ => #[]
def opIs (ops : Array Oper) (i : Nat) (op : Op) (d : Option Nat) : Prop := (ops[i]?).map (fun o => (o.guard, o.op, o.dst)) = some (none, op, d)
theorem opIs.get {ops : Array Oper} {i : Nat} {op : Op} {d : Option Nat} (h : opIs ops i op d) : ∃ o, ops[i]? = some o ∧ o.guard = none ∧ o.op = op ∧ o.dst = d := by
  obtain ⟨o, h1, h5⟩ := Option.map_eq_some_iff.1 h
  simp only [Prod.mk.injEq] at h5
  exact ⟨o, h1, h5.1, h5.2.1, h5.2.2⟩
theorem wanted_none {o : Oper} (h : o.guard = none) (y : Nat → Option Bool) : Region.wanted o y = true := by simp [Region.wanted, h]
section
variable {P : Program} {ops : Array Oper} {Q : Exit → Act → World → Prop} {S : World → Prop} {fuel : Nat} {listed : Array Bool} {a : Act} {w : World}
theorem takeH {i : Nat} {op : Op} {d : Nat} {v : Value} (hc : opIs ops i op (some d)) (hs : Region.noSelect ops = true) (hf : Region.free .any ops listed i = true) (hr : (Region.ready .any ops listed).contains i = true)
    (hQ : ∀ c (a : Act) d v w, Q (.panic c) (a.put d v) w → Q (.panic c) a w) (hrun : ∀ w, S w → ∀ o : Oper, o.op = op → (execOp a.eval o).run P w = .ok (.value v) w) (hS : S w)
    (h : wpAnyH P .any ops Q S fuel (listed.setIfInBounds i true) (a.put (some d) v) w) : wpAnyH P .any ops Q S (fuel + 1) listed a w := by
  obtain ⟨o, h1, h2, h3, h4⟩ := hc.get
  exact wpAnyH_take h1 hs hf hr (fun _ _ _ h => hQ _ _ _ _ _ h) (.inl ⟨wanted_none h2 _, fun w hw => hrun w hw o h3⟩) hS (by rw [h4]; exact h)
theorem wpAnyH_as {l l' : Array Bool} (hl : l = l') (h : wpAnyH P .any ops Q S fuel l' a w) : wpAnyH P .any ops Q S fuel l a w := by rw [hl]; exact h
/-- one operation alone may come up -/
theorem readyH {i : Nat} {op : Op} {d : Option Nat} (hc : opIs ops i op d) (hr : Region.ready .any ops listed = [i])
    (h : ∀ o : Oper, o.op = op → o.dst = d → Oper.wp P o a w (fun a' w' => S w' ∧ wpAnyH P .any ops Q S fuel (listed.setIfInBounds i true) a' w') Q) : wpAnyH P .any ops Q S (fuel + 1) listed a w := by
  obtain ⟨o, h1, h2, h3, h4⟩ := hc.get
  refine wpAnyH_all hr (by simp) (fun j hj => ?_)
  obtain rfl : j = i := by simpa using hj
  unfold wpOp
  simp only [h1]
  rw [if_pos (wanted_none h2 _)]
  exact .inl (h o h3 h4)
end
theorem eval_put_ne (a : Act) (d s : Nat) (v : Value) (h : d ≠ s) : (a.put (some d) v).eval (.tmp s) = a.eval (.tmp s) := by
  simp [Act.put, Act.eval, Array.getElem?_setIfInBounds_ne h]
theorem eval_put_eq (a : Act) (d : Nat) (v : Value) (h : d < a.tmps.size) : (a.put (some d) v).eval (.tmp d) = v := by
  simp [Act.put, Act.eval, h]
theorem size_put (a : Act) (d : Nat) (v : Value) : (a.put (some d) v).tmps.size = a.tmps.size := by simp [Act.put]
theorem run_move {P : Program} {a : Act} {o : Oper} {x : Operand} {v : Value} (ho : o.op = .move x) (he : a.eval x = v) (w : World) : (execOp a.eval o).run P w = .ok (.value v) w := by
  unfold execOp
  simp only [ho, he]
  rfl
theorem run_nilCheck {P : Program} {a : Act} {o : Oper} {x : Operand} {p : Addr} (ho : o.op = .nilCheck x) (he : a.eval x = .pointer (some p)) (w : World) : (execOp a.eval o).run P w = .ok (.value (.pointer (some p))) w := by
  unfold execOp
  simp only [ho, he]
  go_simp
end Go.Proofs.Ytgfamcadgahiiaa
namespace Go.Proofs.Ytgfamcadgahiiaa
set_option linter.unusedSimpArgs false
set_option linter.unusedVariables false
open Go.ChangeShapes Go.WideShapes Go.ChangeAt Go.RowKit Go.Pin
section
variable {P : Program} {ops : Array Oper} {Q : Exit → Act → World → Prop} {S : World → Prop} {fuel : Nat} {listed : Array Bool} {a : Act} {w : World}
theorem wp_of_run {o : Oper} {v : Value} {K : Act → World → Prop} (hrun : (execOp a.eval o).run P w = .ok (.value v) w) (h : K (a.put o.dst v) w) : Oper.wp P o a w K Q := by
  unfold Oper.wp
  rw [hrun]
  exact h
/-- one operation that yields a value alone may come up -/
theorem readyLd1 {i : Nat} {op : Op} {d : Nat} {v : Value} (hc : opIs ops i op (some d)) (hr : Region.ready .any ops listed = [i]) (hS : S w)
    (hrun : ∀ o : Oper, o.op = op → (execOp a.eval o).run P w = .ok (.value v) w) (h : wpAnyH P .any ops Q S fuel (listed.setIfInBounds i true) (a.put (some d) v) w) : wpAnyH P .any ops Q S (fuel + 1) listed a w :=
  readyH hc hr (fun o h1 h2 => wp_of_run (hrun o h1) ⟨hS, by rw [h2]; exact h⟩)
/-- two of them, in either order -/
theorem readyLd2 {i j : Nat} {op oq : Op} {d e : Nat} {v u : Value} (hi : opIs ops i op (some d)) (hj : opIs ops j oq (some e)) (hde : d ≠ e) (hij : i ≠ j) (hr : Region.ready .any ops listed = [i, j])
    (hr1 : Region.ready .any ops (listed.setIfInBounds i true) = [j]) (hr2 : Region.ready .any ops (listed.setIfInBounds j true) = [i]) (hS : S w)
    (run1 : ∀ o : Oper, o.op = op → (execOp a.eval o).run P w = .ok (.value v) w) (run2 : ∀ o : Oper, o.op = oq → (execOp a.eval o).run P w = .ok (.value u) w)
    (run1' : ∀ o : Oper, o.op = op → (execOp (a.put (some e) u).eval o).run P w = .ok (.value v) w) (run2' : ∀ o : Oper, o.op = oq → (execOp (a.put (some d) v).eval o).run P w = .ok (.value u) w)
    (h : wpAnyH P .any ops Q S fuel ((listed.setIfInBounds i true).setIfInBounds j true) ((a.put (some d) v).put (some e) u) w) : wpAnyH P .any ops Q S (fuel + 2) listed a w := by
  obtain ⟨o1, h1, g1, p1, q1⟩ := hi.get
  obtain ⟨o2, h2, g2, p2, q2⟩ := hj.get
  refine wpAnyH_all hr (by simp) (fun k hk => ?_)
  simp only [List.mem_cons, List.not_mem_nil, or_false] at hk
  rcases hk with rfl | rfl
  · unfold wpOp
    simp only [h1]
    rw [if_pos (wanted_none g1 _)]
    refine .inl (wp_of_run (run1 o1 p1) ⟨hS, ?_⟩)
    rw [q1]
    exact readyLd1 hj hr1 hS run2' h
  · unfold wpOp
    simp only [h2]
    rw [if_pos (wanted_none g2 _)]
    refine .inl (wp_of_run (run2 o2 p2) ⟨hS, ?_⟩)
    rw [q2]
    refine readyLd1 hi hr2 hS run1' ?_
    have e1 : (a.put (some e) u).put (some d) v = (a.put (some d) v).put (some e) u := by
      simp only [Act.put]
      rw [Array.setIfInBounds_comm _ _ (fun e' => hde e'.symm)]
    rw [e1, Array.setIfInBounds_comm _ _ (fun e' => hij e'.symm)]
    exact h
end
end Go.Proofs.Ytgfamcadgahiiaa
namespace Go.Proofs.Ytgfamcadgahiiaa
set_option linter.unusedSimpArgs false
open Go.ChangeShapes Go.WideShapes Go.ChangeAt Go.RowKit Go.Pin Go.Prm
theorem own : ownKnob Try.prog.godebug = none := by kernel_rfl
theorem laidOut : laidOutB Try.prog = true := by kernel_rfl
theorem key17_of {l : List Int} (hl : l.length = 17) (h : ∀ x ∈ l, (Lit.int .u8 x).wf = true) : Key17 l := ⟨hl, fun x hx => by
  have := bounds_u8 (h x hx)
  omega⟩
theorem key16_of {l : List Int} (hl : l.length = 16) (h : ∀ x ∈ l, (Lit.int .u8 x).wf = true) : Key16 l := ⟨hl, fun x hx => by
  have := bounds_u8 (h x hx)
  omega⟩
theorem wp_region_quiet_in {P : Program} {C : World → Prop} {id : Nat} {Q : Exit → Act → World → Prop} {a : Act} {w : World} {l : List Oper} (hm : P.follows .mixedOrders = true) (hB : Region.lexB .any l.toArray = true) (hC : C w.drew)
    (h : wpQuiet P l.toArray C (fun a' => ∀ w', C w' → Q .normal a' w') l a) : (Code.region id l.toArray true).wp P Q a w :=
  wp_region_quiet (C := C) hm hB hC (by simpa using h)
theorem if_pos_mpr {c : Prop} [Decidable c] {a b : Prop} (hc : c) (h : a) : if c then a else b := by rw [if_pos hc]; exact h
theorem quietAt_load_row {P : Program} {C : World → Prop} {o : Oper} {a : Act} {Y : World} (ty : TypeId) (x : Operand) (ho : o.op = .load ty x) (g : Nat) (hx : a.eval x = .pointer (some ⟨g, 0, none⟩)) (t : TypeId) (cs : Array Value) (fr : Nat × Nat) (d : TypeDesc) (hg : Y.heap[g]? = some (.cells cs t fr))
    (hu : P.underlying ty = some d) (hd : (match d with | .struct _ | .array _ _ => true | _ => false) = true) (hi : (P.info? ty).map (·.size) = some cs.size) : o.quietAt P a C Y (.agg cs) := by
  unfold Oper.quietAt execOp
  simp only [ho, hx, Instr.loadAt, Instr.sureAddr, Sem.run_bind, Sem.run_pure, Result.andThen_ok, run_loadVar_row Y g t ty cs fr d hg hu hd hi]
  exact ⟨rfl, rfl⟩
/-- boxes, all above what lay there -/
structure Bx (w0 : World) (bx : List (Nat × Obj)) (W : World) : Prop where
  old : Below w0.heap.size w0 W
  rows : ∀ p ∈ bx, W.heap[p.1]? = some p.2
  ge : ∀ p ∈ bx, w0.heap.size ≤ p.1
theorem Bx.refl (w : World) : Bx w [] w := ⟨Below.refl _ _, by simp, by simp⟩
theorem Bx.below {w0 W W' : World} {bx : List (Nat × Obj)} (h : Bx w0 bx W) (hb : Below W.heap.size W W') : Bx w0 bx W' :=
  ⟨h.old.trans (hb.mono h.old.size), fun p hp => (hb.block _ (heap_lt (h.rows p hp))).trans (h.rows p hp), h.ge⟩
theorem Bx.drew {w0 W : World} {bx : List (Nat × Obj)} (h : Bx w0 bx W) : Bx w0 bx W.drew := ⟨h.old.drew, h.rows, h.ge⟩
theorem Bx.new {w0 W : World} {bx : List (Nat × Obj)} (h : Bx w0 bx W) (x : Obj) : Bx w0 ((W.heap.size, x) :: bx) (W.alloc x) := by
  have hb := h.below ((Below.refl _ _).alloc (Nat.le_refl _) x)
  refine ⟨hb.old, fun p hp => ?_, fun p hp => ?_⟩
  · rcases List.mem_cons.1 hp with rfl | hp
    · simp only [heap_alloc_any, if_true]
    · exact hb.rows p hp
  · rcases List.mem_cons.1 hp with rfl | hp
    · exact h.old.size
    · exact h.ge p hp
theorem Bx.row {w0 W : World} {bx : List (Nat × Obj)} (h : Bx w0 bx W) {g : Nat} {x : Obj} (hp : (g, x) ∈ bx) : W.heap[g]? = some x := h.rows _ hp
theorem Bx.lt {w0 W : World} {bx : List (Nat × Obj)} (h : Bx w0 bx W) {g : Nat} {x : Obj} (hp : (g, x) ∈ bx) : g < W.heap.size := heap_lt (h.row hp)
theorem bx1 (w : World) (x : Obj) : Bx w [(w.heap.size, x)] (w.alloc x) := (Bx.refl w).new x
theorem bx2 (w : World) (x y : Obj) : Bx w [(w.heap.size + 1, y), (w.heap.size, x)] ((w.alloc x).alloc y) := by
  have := ((Bx.refl w).new x).new y
  rw [size_alloc] at this
  exact this
theorem bx3 (w : World) (x y z : Obj) : Bx w [(w.heap.size + 2, z), (w.heap.size + 1, y), (w.heap.size, x)] (((w.alloc x).alloc y).alloc z) := by
  have := (((Bx.refl w).new x).new y).new z
  rw [size_alloc, size_alloc] at this
  exact this
theorem block_f {b : List Int} (hb : Key17 b) : ∃ x0 x1 x2 x3 x4, Lim [x0, x1, x2, x3, x4] ∧ num [x0, x1, x2, x3, x4] = nb b % P ∧ Hid (∀ w, Calls Try.prog 49 #[.agg (VI .u8 b)] w fun e w' => e = .returned (.agg #[.int .u64 x0, .int .u64 x1, .int .u64 x2, .int .u64 x3, .int .u64 x4]) ∧ Below w.heap.size w w') := by
  have hl := blk_lim hb.bd
  have hn := num_blk hb.bd
  have hc := fun w => block_any b hb w
  obtain ⟨x0, x1, x2, x3, x4, e⟩ := five hl.len
  rw [e] at hl hn hc
  exact ⟨x0, x1, x2, x3, x4, hl, hn, hc⟩
theorem clamp_f {k : List Int} (hk : Key16 k) : ∃ x0 x1 x2 x3 x4, Lim [x0, x1, x2, x3, x4] ∧ num [x0, x1, x2, x3, x4] = nb (clp k ++ [0]) % P ∧ Hid (∀ w, Calls Try.prog 31 #[.agg (VI .u8 k)] w fun e w' => e = .returned (.agg #[.int .u64 x0, .int .u64 x1, .int .u64 x2, .int .u64 x3, .int .u64 x4]) ∧ Below w.heap.size w w') := by
  have hp := pad17 (clp_key hk.len hk.bd).1 (clp_key hk.len hk.bd).2
  have hl := blk_lim hp.bd
  have hn := num_blk hp.bd
  have hc := fun w => clamp_any k hk w
  obtain ⟨x0, x1, x2, x3, x4, e⟩ := five hl.len
  rw [e] at hl hn hc
  exact ⟨x0, x1, x2, x3, x4, hl, hn, hc⟩
theorem add_f {a0 a1 a2 a3 a4 b0 b1 b2 b3 b4 : Int} (ha : Lim [a0, a1, a2, a3, a4]) (hb : Lim [b0, b1, b2, b3, b4]) : ∃ x0 x1 x2 x3 x4, Lim [x0, x1, x2, x3, x4] ∧ num [x0, x1, x2, x3, x4] = (num [a0, a1, a2, a3, a4] + num [b0, b1, b2, b3, b4]) % P ∧ Hid (∀ w, Calls Try.prog 54 #[.pointer none, .agg #[.int .u64 a0, .int .u64 a1, .int .u64 a2, .int .u64 a3, .int .u64 a4], .agg #[.int .u64 b0, .int .u64 b1, .int .u64 b2, .int .u64 b3, .int .u64 b4]] w fun e w' => e = .returned (.agg #[.int .u64 x0, .int .u64 x1, .int .u64 x2, .int .u64 x3, .int .u64 x4]) ∧ Below w.heap.size w w') := by
  have hl := add_lim ha hb
  have hn := num_add ha hb
  have hc := fun w => (add_any (.pointer none) [a0, a1, a2, a3, a4] [b0, b1, b2, b3, b4] ha hb w _ (opc_nil _ w)).mono fun e w' hh => (⟨hh.1, hh.2.nil⟩ : _ ∧ Below w.heap.size w w')
  obtain ⟨x0, x1, x2, x3, x4, e⟩ := five hl.len
  rw [e] at hl hn hc
  exact ⟨x0, x1, x2, x3, x4, hl, hn, hc⟩
theorem mul_f {a0 a1 a2 a3 a4 b0 b1 b2 b3 b4 : Int} (ha : Lim [a0, a1, a2, a3, a4]) (hb : Lim [b0, b1, b2, b3, b4]) : ∃ x0 x1 x2 x3 x4, Lim [x0, x1, x2, x3, x4] ∧ num [x0, x1, x2, x3, x4] = num [a0, a1, a2, a3, a4] * num [b0, b1, b2, b3, b4] % P ∧ Hid (∀ w, Calls Try.prog 53 #[.pointer none, .agg #[.int .u64 a0, .int .u64 a1, .int .u64 a2, .int .u64 a3, .int .u64 a4], .agg #[.int .u64 b0, .int .u64 b1, .int .u64 b2, .int .u64 b3, .int .u64 b4]] w fun e w' => e = .returned (.agg #[.int .u64 x0, .int .u64 x1, .int .u64 x2, .int .u64 x3, .int .u64 x4]) ∧ Below w.heap.size w w') := by
  have hl := prod_lim ha hb
  have hn := num_prod ha hb
  have hc := fun w => (mul_any (.pointer none) [a0, a1, a2, a3, a4] [b0, b1, b2, b3, b4] ha hb w _ (opc_nil _ w)).mono fun e w' hh => (⟨hh.1, hh.2.nil⟩ : _ ∧ Below w.heap.size w w')
  obtain ⟨x0, x1, x2, x3, x4, e⟩ := five hl.len
  rw [e] at hl hn hc
  exact ⟨x0, x1, x2, x3, x4, hl, hn, hc⟩
theorem bytes_f {a0 a1 a2 a3 a4 : Int} (ha : Lim [a0, a1, a2, a3, a4]) {b : List Int} (h : bts (num [a0, a1, a2, a3, a4]) = b) : Hid (∀ w, Calls Try.prog 55 #[.agg #[.int .u64 a0, .int .u64 a1, .int .u64 a2, .int .u64 a3, .int .u64 a4]] w fun e w' => e = .returned (.agg (VI .u8 b)) ∧ Below w.heap.size w w') := fun w => bytes_is ha h w
theorem sum_f {a0 a1 a2 a3 a4 : Int} (ha : Lim [a0, a1, a2, a3, a4]) {s b : List Int} (hs : Key16 s) (h : smt (bts (num [a0, a1, a2, a3, a4])) s = b) : Hid (∀ w, Calls Try.prog 39 #[.agg #[.int .u64 a0, .int .u64 a1, .int .u64 a2, .int .u64 a3, .int .u64 a4], .agg (VI .u8 s)] w fun e w' => e = .returned (.agg (VI .u8 b)) ∧ Below w.heap.size w w') := fun w => sum_is ha hs h w
end Go.Proofs.Ytgfamcadgahiiaa
namespace Go.Proofs.Ytgfamcadgahiiaa
set_option linter.unusedSimpArgs false
open Go.ChangeShapes Go.WideShapes Go.ChangeAt Go.RowKit Go.Pin Go.Prm
/-- boxes of keys and of Elements -/
structure Bs (w0 : World) (ks bx : List (Nat × List Int)) (W : World) : Prop where
  old : Below w0.heap.size w0 W
  keys : ∀ p ∈ ks, rowB W p.1 p.2 67
  rows : ∀ p ∈ bx, rowAt W p.1 p.2 66
theorem Bs.refl (w : World) : Bs w [] [] w := ⟨Below.refl _ _, by simp, by simp⟩
theorem Bs.below {w0 W W' : World} {ks bx : List (Nat × List Int)} (h : Bs w0 ks bx W) (hb : Below W.heap.size W W') : Bs w0 ks bx W' :=
  ⟨h.old.trans (hb.mono h.old.size), fun p hp => (hb.block _ (Array.getElem?_eq_some_iff.1 (h.keys p hp)).1).trans (h.keys p hp), fun p hp => row_below (h.rows p hp) hb⟩
theorem Bs.new {w0 W : World} {ks bx : List (Nat × List Int)} (h : Bs w0 ks bx W) (x : List Int) : Bs w0 ks ((W.heap.size, x) :: bx) (W.alloc (.cells (VI .u64 x) 66)) := by
  have hb := h.below ((Below.refl _ _).alloc (Nat.le_refl _) (.cells (VI .u64 x) 66))
  refine ⟨hb.old, hb.keys, fun p hp => ?_⟩
  rcases List.mem_cons.1 hp with rfl | hp
  · simp only [rowAt, heap_alloc_any, if_true]
  · exact hb.rows p hp
theorem Bs.newk {w0 W : World} {ks bx : List (Nat × List Int)} (h : Bs w0 ks bx W) (x : List Int) : Bs w0 ((W.heap.size, x) :: ks) bx (W.alloc (.cells (VI .u8 x) 67)) := by
  have hb := h.below ((Below.refl _ _).alloc (Nat.le_refl _) (.cells (VI .u8 x) 67))
  refine ⟨hb.old, fun p hp => ?_, hb.rows⟩
  rcases List.mem_cons.1 hp with rfl | hp
  · simp only [rowB, heap_alloc_any, if_true]
  · exact hb.keys p hp
theorem Bs.row {w0 W : World} {ks bx : List (Nat × List Int)} (h : Bs w0 ks bx W) {g : Nat} {x : List Int} (hp : (g, x) ∈ bx) : rowAt W g x 66 := h.rows _ hp
theorem Bs.key {w0 W : World} {ks bx : List (Nat × List Int)} (h : Bs w0 ks bx W) {g : Nat} {x : List Int} (hp : (g, x) ∈ ks) : rowB W g x 67 := h.keys _ hp
theorem Bs.lt {w0 W : World} {ks bx : List (Nat × List Int)} (h : Bs w0 ks bx W) {g : Nat} {x : List Int} (hp : (g, x) ∈ bx) : g < W.heap.size := (Array.getElem?_eq_some_iff.1 (h.row hp)).1
theorem Bs.ltk {w0 W : World} {ks bx : List (Nat × List Int)} (h : Bs w0 ks bx W) {g : Nat} {x : List Int} (hp : (g, x) ∈ ks) : g < W.heap.size := (Array.getElem?_eq_some_iff.1 (h.key hp)).1
theorem bs_start2 (w : World) (x y : List Int) : Bs w [(w.heap.size + 1, y), (w.heap.size, x)] [] ((w.alloc (.cells (VI .u8 x) 67)).alloc (.cells (VI .u8 y) 67)) := by
  have := ((Bs.refl w).newk x).newk y
  rw [size_alloc] at this
  exact this
theorem bs_start3 (w : World) (x y z : List Int) : Bs w [(w.heap.size + 2, z), (w.heap.size + 1, y), (w.heap.size, x)] [] (((w.alloc (.cells (VI .u8 x) 67)).alloc (.cells (VI .u8 y) 67)).alloc (.cells (VI .u8 z) 67)) := by
  have := (((Bs.refl w).newk x).newk y).newk z
  rw [size_alloc, size_alloc] at this
  exact this
theorem bs_start1 (w : World) (x : List Int) : Bs w [(w.heap.size, x)] [] (w.alloc (.cells (VI .u8 x) 67)) := (Bs.refl w).newk x
theorem Bs.sub {w0 W : World} {ks bx by' : List (Nat × List Int)} (h : Bs w0 ks bx W) (hs : ∀ p ∈ by', p ∈ bx) : Bs w0 ks by' W := ⟨h.old, h.keys, fun p hp => h.rows p (hs p hp)⟩
theorem Bs.store5 {w0 W : World} {ks bx : List (Nat × List Int)} {g : Nat} {a : List Int} (h : Bs w0 ks ((g, a) :: bx) W) (hg : w0.heap.size ≤ g) (hbx : ∀ p ∈ bx, p.1 ≠ g) (hks : ∀ p ∈ ks, p.1 ≠ g) (ha : a.length = 5) (x0 x1 x2 x3 x4 : Int) :
    Bs w0 ks ((g, [x0, x1, x2, x3, x4]) :: bx) (((((W.setCell ⟨g, 0, none⟩ (.int .u64 x0)).setCell ⟨g, 1, none⟩ (.int .u64 x1)).setCell ⟨g, 2, none⟩ (.int .u64 x2)).setCell ⟨g, 3, none⟩ (.int .u64 x3)).setCell ⟨g, 4, none⟩ (.int .u64 x4)) := by
  have hr := h.row (g := g) (x := a) (by simp)
  obtain ⟨a0, a1, a2, a3, a4, rfl⟩ := five ha
  refine ⟨((((h.old.setCell hg _).setCell hg _).setCell hg _).setCell hg _).setCell hg _, fun p hp => ?_, fun p hp => ?_⟩
  · have hn := hks p hp
    exact row_other (row_other (row_other (row_other (row_other (h.keys p hp) hn _) hn _) hn _) hn _) hn _
  · rcases List.mem_cons.1 hp with rfl | hp
    · exact row_set (row_set (row_set (row_set (row_set hr 0 x0) 1 x1) 2 x2) 3 x3) 4 x4
    · have hn := hbx p hp
      exact row_other (row_other (row_other (row_other (row_other (h.rows p (by simp [hp])) hn _) hn _) hn _) hn _) hn _
theorem Bs.drew {w0 W : World} {ks bx : List (Nat × List Int)} (h : Bs w0 ks bx W) : Bs w0 ks bx W.drew := ⟨h.old.drew, h.keys, h.rows⟩
theorem Bs.fresh {w0 W : World} {ks bx : List (Nat × List Int)} (h : Bs w0 ks bx W) {g : Nat} (hg : W.heap.size = g) : w0.heap.size ≤ g ∧ (∀ p ∈ bx, p.1 ≠ g) ∧ (∀ p ∈ ks, p.1 ≠ g) := by
  subst hg
  exact ⟨h.old.size, fun p hp => Nat.ne_of_lt (h.lt (g := p.1) (x := p.2) hp), fun p hp => Nat.ne_of_lt (h.ltk (g := p.1) (x := p.2) hp)⟩
theorem eq17t {k : List Int} (hk : k.length = 17) (w : World) : (Op.equalIn 10000 67 (.agg (VI .u8 k)) (.agg (VI .u8 k))).run Try.prog w = .ok true w := (eq17 hk hk w).trans (by rw [beq_self_eq_true])
theorem wp_as {P : Program} {c c' : Code} {Q : Exit → Act → World → Prop} {a : Act} {w : World} (h : c = c') (hc : Code.wp P c' Q a w) : Code.wp P c Q a w := by rw [h]; exact hc
theorem yields17 {ops : Array Oper} {S : World → Prop} {op : Oper} {a : Act} (hw : Region.wanted op (yielded ops a.tmps) = true) (x : Operand) (ho : op.op = .load 67 x) (g : Nat) (hx : a.eval x = .pointer (some ⟨g, 0, none⟩)) (l : List Int) (hl : Key17 l) (h : ∀ Y, S Y → rowB Y g l 67) : YieldsIf Try.prog ops S op (.agg (VI .u8 l)) a :=
  yieldsIf_load_row hw 67 x ho g hx 67 (VI .u8 l) (0, 0) _ h Try.underlying67 rfl hl.info
def findReg (n : Nat) : Code → Option Code
  | .region i ops d => if i = n then some (.region i ops d) else none
  | .seq a b => match findReg n a with
    | some c => some c
    | none => findReg n b
  | .block _ c => findReg n c
  | .loop c => findReg n c
  | .scope c => findReg n c
  | .cond _ a b => match findReg n a with
    | some c => some c
    | none => findReg n b
  | _ => none
end Go.Proofs.Ytgfamcadgahiiaa
