import Derived.SizedLaws
import Derived.Test.YtgfamcadgahiiaaMmaq
import Derived.Test.YtgfamcadgahiiaaMmat
import Derived.Test.YtgfamcadgahiiaaMman
import Derived.Test.YtgfamcadgahiiaaMmak
namespace Go.Proofs.Ytgfamcadgahiiaa
set_option linter.unusedSimpArgs false
set_option linter.unusedVariables false
open Go.ChangeShapes Go.WideShapes Go.ChangeAt Go.RowKit Go.Pin Go.Prm
noncomputable def rgCk4 : Code := ((Try.f5.body.bind (findReg 4)).getD .skip)
noncomputable def opCk4 : Array Oper := opsOf rgCk4
theorem rgCk4_is : rgCk4 = .region 4 opCk4 true := by kernel_rfl
theorem opCk4_ns : Region.noSelect opCk4 = true := by kernel_rfl
theorem opCk4_0 : opIs opCk4 0 (.load 23 (.tmp 3)) (some 21) := by unfold opIs; kernel_rfl
theorem opCk4_1 : opIs opCk4 1 (.move (.tmp 2)) (some 22) := by unfold opIs; kernel_rfl
theorem opCk4_2 : opIs opCk4 2 (.call { callee := .value (.func 25), args := #[.tmp 22], argTypes := #[48] }) (some 23) := by unfold opIs; kernel_rfl
theorem opCk4_3 : opIs opCk4 3 (.call { callee := .value (.func 14), args := #[.tmp 21, .tmp 23], argTypes := #[23, 30] }) (some 24) := by unfold opIs; kernel_rfl
theorem opCk4_4 : opIs opCk4 4 (.alloc 36) (some 9) := by unfold opIs; kernel_rfl
theorem opCk4_5 : opIs opCk4 5 (.store 36 (.tmp 9) (.tmp 24)) (none) := by unfold opIs; kernel_rfl
set_option maxRecDepth 100000 in
set_option maxHeartbeats 4000000 in
theorem Ck4 {Q : Exit → Act → World → Prop} {B : Nat} {w W : World} {rv : Value} {l : List (Int × Int)} {bx : List (Nat × Obj)} {q : Nat} {key : List Int} {a : Option Addr} {n cap : Nat} {Ds : List (List Int)} {a0 : Act} (hk : Key32 key) (hP : PSrc B w bx a n Ds) (hD : BytL Ds) (hn : n ≤ 1000) (hl : Ds.flatten.length ≤ 131072) (h0 : Ev B w rv l bx W) (hq : (q, Obj.cells (VI .u8 key) 23) ∈ bx)
    (sz : a0.tmps.size = 71) (e2 : a0.eval (.tmp 3) = .pointer (some ⟨q, 0, none⟩)) (e1 : a0.eval (.tmp 2) = .slice a n cap)
    (HPN : ∀ c (a : Act) d v w, Q (.panic c) (a.put d v) w → Q (.panic c) a w)
    (H : ∀ v g Y, (∀ p ∈ bx, p.1 ≠ g) → Ev B w rv l ((g, Obj.cells (VI .u8 (mtag key Ds.flatten)) 36) :: bx) Y → Q .normal (((((a0.put (some 21) (.agg (VI .u8 key))).put (some 22) (.slice a n cap)).put (some 23) v).put (some 24) (.agg (VI .u8 (mtag key Ds.flatten)))).put (some 9) (.pointer (some ⟨g, 0, none⟩))) Y) : Code.wp Try.prog rgCk4 Q a0 W := by
  have hS : ∀ k Y, Ev B w rv l k Y → (∀ p ∈ bx, p ∈ k) → (fun Y : World => Y.rangeAt q 0 (key.map (Value.int .u8))) Y := fun k Y h hs => row_range (h.row (hs _ hq))
  have L2a : ∀ v g Y, (∀ p ∈ bx, p.1 ≠ g) → LE 5 1 v Ds.flatten.length (Ds.flatten.map (Value.int .u8)) B w rv l ((g, Obj.cells (VI .u8 z16) 36) :: bx) Y → wpAnyH Try.prog .any opCk4 Q (fun Y : World => Y.rangeAt q 0 (key.map (Value.int .u8))) 1 #[true, true, true, true, true, false] (((((a0.put (some 21) (.agg (VI .u8 key))).put (some 22) (.slice a n cap)).put (some 23) v).put (some 24) (.agg (VI .u8 (mtag key Ds.flatten)))).put (some 9) (.pointer (some ⟨g, 0, none⟩))) Y := fun v g Y hf h => by
    have q1 : (((((a0.put (some 21) (.agg (VI .u8 key))).put (some 22) (.slice a n cap)).put (some 23) v).put (some 24) (.agg (VI .u8 (mtag key Ds.flatten)))).put (some 9) (.pointer (some ⟨g, 0, none⟩))).eval (.tmp 9) = (.pointer (some ⟨g, 0, none⟩)) := eval_put_eq _ _ _ (by simp only [size_put, sz]; decide)
    have q2 : (((((a0.put (some 21) (.agg (VI .u8 key))).put (some 22) (.slice a n cap)).put (some 23) v).put (some 24) (.agg (VI .u8 (mtag key Ds.flatten)))).put (some 9) (.pointer (some ⟨g, 0, none⟩))).eval (.tmp 24) = .agg (VI .u8 (mtag key Ds.flatten)) := by rw [eval_put_ne _ _ _ _ (by decide)]; exact eval_put_eq _ _ _ (by simp only [size_put, sz]; decide)
    have hev := h.ev
    have hst := hev.storeRow (L' := mtag key Ds.flatten) hf (by rw [mtag_len]; rfl)
    refine readyH opCk4_5 (by kernel_rfl) (fun o ho hd => ?_)
    refine wp_store_mid (P := Try.prog) 36 (.tmp 9) (.tmp 24) ho g 0 (VI .u8 (mtag key Ds.flatten)) q1 q2 (by rw [VI_size, mtag_len]; exact row_there (hev.row mem0)) (by rw [VI_size, mtag_len]; exact infoT) (VI_one _ _) ?_
    rw [hd, put_none]
    refine ⟨hS _ _ hst (fun p hp => memr1 hp), ?_⟩
    refine wpAnyH_as (l' := #[true, true, true, true, true, true]) (by kernel_rfl) ?_
    exact wpAnyH_done (by kernel_rfl) (H v g _ hf hst) _
  have L2 : ∀ v Y, LE 5 1 v Ds.flatten.length (Ds.flatten.map (Value.int .u8)) B w rv l bx Y → wpAnyH Try.prog .any opCk4 Q (fun Y : World => Y.rangeAt q 0 (key.map (Value.int .u8))) 2 #[true, true, true, true, false, false] ((((a0.put (some 21) (.agg (VI .u8 key))).put (some 22) (.slice a n cap)).put (some 23) v).put (some 24) (.agg (VI .u8 (mtag key Ds.flatten)))) Y := fun v Y h => by
    refine readyH opCk4_4 (by kernel_rfl) (fun o ho hd => wpRun hd (run_allocT ho Y) ⟨hS _ _ (h.box _).ev (fun p hp => memr1 hp), ?_⟩)
    refine wpAnyH_as (l' := #[true, true, true, true, true, false]) (by kernel_rfl) ?_
    exact L2a v _ _ (fun p hp => by have := heap_lt (h.ev.at' p hp); omega) (h.box _)
  have L1a : ∀ v g Y, (∀ p ∈ bx, p.1 ≠ g) → LE 5 1 v Ds.flatten.length (Ds.flatten.map (Value.int .u8)) B w rv l ((g, Obj.cells (VI .u8 z16) 36) :: bx) Y → wpAnyH Try.prog .any opCk4 Q (fun Y : World => Y.rangeAt q 0 (key.map (Value.int .u8))) 2 #[true, true, true, false, true, false] ((((a0.put (some 21) (.agg (VI .u8 key))).put (some 22) (.slice a n cap)).put (some 23) v).put (some 9) (.pointer (some ⟨g, 0, none⟩))) Y := fun v g Y hf h => by
    have q1 : ((((a0.put (some 21) (.agg (VI .u8 key))).put (some 22) (.slice a n cap)).put (some 23) v).put (some 9) (.pointer (some ⟨g, 0, none⟩))).eval (.tmp 21) = .agg (VI .u8 key) := by rw [eval_put_ne _ _ _ _ (by decide)]; rw [eval_put_ne _ _ _ _ (by decide)]; rw [eval_put_ne _ _ _ _ (by decide)]; exact eval_put_eq _ _ _ (by simp only [size_put, sz]; decide)
    have q2 : ((((a0.put (some 21) (.agg (VI .u8 key))).put (some 22) (.slice a n cap)).put (some 23) v).put (some 9) (.pointer (some ⟨g, 0, none⟩))).eval (.tmp 23) = v := by rw [eval_put_ne _ _ _ _ (by decide)]; exact eval_put_eq _ _ _ (by simp only [size_put, sz]; decide)
    refine readyH opCk4_3 (by kernel_rfl) (fun o ho hd => wpCall (v := .agg (VI .u8 (mtag key Ds.flatten))) ho hd (args := #[.agg (VI .u8 key), v]) (by simp only [List.map_toArray, List.map_cons, List.map_nil, q1, q2]) (fun _ => rfl) (h.rtag hk hD.flat (by omega)) (fun w' hw' => ⟨hS _ _ hw'.ev (fun p hp => memr1 hp), ?_⟩))
    refine wpAnyH_as (l' := #[true, true, true, true, true, false]) (by kernel_rfl) ?_
    rw [put_comm _ _ _ (by decide)]
    exact L2a v g w' hf hw'
  have L1 : ∀ v Y, LE 5 1 v Ds.flatten.length (Ds.flatten.map (Value.int .u8)) B w rv l bx Y → wpAnyH Try.prog .any opCk4 Q (fun Y : World => Y.rangeAt q 0 (key.map (Value.int .u8))) 3 #[true, true, true, false, false, false] (((a0.put (some 21) (.agg (VI .u8 key))).put (some 22) (.slice a n cap)).put (some 23) v) Y := fun v Y h => by
    have q1 : (((a0.put (some 21) (.agg (VI .u8 key))).put (some 22) (.slice a n cap)).put (some 23) v).eval (.tmp 21) = .agg (VI .u8 key) := by rw [eval_put_ne _ _ _ _ (by decide)]; rw [eval_put_ne _ _ _ _ (by decide)]; exact eval_put_eq _ _ _ (by simp only [size_put, sz]; decide)
    have q2 : (((a0.put (some 21) (.agg (VI .u8 key))).put (some 22) (.slice a n cap)).put (some 23) v).eval (.tmp 23) = v := eval_put_eq _ _ _ (by simp only [size_put, sz]; decide)
    refine readyH2 opCk4_3 opCk4_4 (by kernel_rfl) (fun o ho hd => wpCall (v := .agg (VI .u8 (mtag key Ds.flatten))) ho hd (args := #[.agg (VI .u8 key), v]) (by simp only [List.map_toArray, List.map_cons, List.map_nil, q1, q2]) (fun _ => rfl) (h.rtag hk hD.flat (by omega)) (fun w' hw' => ⟨hS _ _ hw'.ev (fun p hp => hp), ?_⟩)) (fun o ho hd => wpRun hd (run_allocT ho Y) ⟨hS _ _ (h.box _).ev (fun p hp => memr1 hp), ?_⟩)
    · refine wpAnyH_as (l' := #[true, true, true, true, false, false]) (by kernel_rfl) ?_
      exact L2 v w' hw'
    · refine wpAnyH_as (l' := #[true, true, true, false, true, false]) (by kernel_rfl) ?_
      exact L1a v _ _ (fun p hp => by have := heap_lt (h.ev.at' p hp); omega) (h.box _)
  have L0a : ∀ g Y, (∀ p ∈ bx, p.1 ≠ g) → Ev B w rv l ((g, Obj.cells (VI .u8 z16) 36) :: bx) Y → wpAnyH Try.prog .any opCk4 Q (fun Y : World => Y.rangeAt q 0 (key.map (Value.int .u8))) 3 #[true, true, false, false, true, false] (((a0.put (some 21) (.agg (VI .u8 key))).put (some 22) (.slice a n cap)).put (some 9) (.pointer (some ⟨g, 0, none⟩))) Y := fun g Y hf h => by
    have q1 : (((a0.put (some 21) (.agg (VI .u8 key))).put (some 22) (.slice a n cap)).put (some 9) (.pointer (some ⟨g, 0, none⟩))).eval (.tmp 22) = .slice a n cap := by rw [eval_put_ne _ _ _ _ (by decide)]; exact eval_put_eq _ _ _ (by simp only [size_put, sz]; decide)
    refine readyH opCk4_2 (by kernel_rfl) (fun o ho hd => wpCallX (v := fun v : Value => v) ho hd (args := #[.slice a n cap]) (by simp only [List.map_toArray, List.map_cons, List.map_nil, q1]) (fun _ => rfl) (joined_any h (hP.sub (fun p hp => memr1 hp)) hn hl) (fun v w' hw' => ⟨hS _ _ hw'.ev (fun p hp => memr1 hp), ?_⟩))
    refine wpAnyH_as (l' := #[true, true, true, false, true, false]) (by kernel_rfl) ?_
    rw [put_comm _ _ _ (by decide)]
    exact L1a v g w' hf hw'
  have L0 : ∀ Y, Ev B w rv l bx Y → wpAnyH Try.prog .any opCk4 Q (fun Y : World => Y.rangeAt q 0 (key.map (Value.int .u8))) 4 #[true, true, false, false, false, false] ((a0.put (some 21) (.agg (VI .u8 key))).put (some 22) (.slice a n cap)) Y := fun Y h => by
    have q1 : ((a0.put (some 21) (.agg (VI .u8 key))).put (some 22) (.slice a n cap)).eval (.tmp 22) = .slice a n cap := eval_put_eq _ _ _ (by simp only [size_put, sz]; decide)
    refine readyH2 opCk4_2 opCk4_4 (by kernel_rfl) (fun o ho hd => wpCallX (v := fun v : Value => v) ho hd (args := #[.slice a n cap]) (by simp only [List.map_toArray, List.map_cons, List.map_nil, q1]) (fun _ => rfl) (joined_any h hP hn hl) (fun v w' hw' => ⟨hS _ _ hw'.ev (fun p hp => hp), ?_⟩)) (fun o ho hd => wpRun hd (run_allocT ho Y) ⟨hS _ _ (h.new _) (fun p hp => memr1 hp), ?_⟩)
    · refine wpAnyH_as (l' := #[true, true, true, false, false, false]) (by kernel_rfl) ?_
      exact L1 v w' hw'
    · refine wpAnyH_as (l' := #[true, true, false, false, true, false]) (by kernel_rfl) ?_
      exact L0a _ _ (fun p hp => by have := heap_lt (h.at' p hp); omega) (h.new _)
  rw [rgCk4_is]
  refine wp_region_held_drew (S := (fun Y : World => Y.rangeAt q 0 (key.map (Value.int .u8)))) (by kernel_rfl) (hS _ _ h0.drew (fun p hp => hp)) (fun hH => ?_)
  refine wpAnyH_as (l' := #[false, false, false, false, false, false]) (by kernel_rfl) ?_
  refine takeH (v := .agg (VI .u8 key)) opCk4_0 opCk4_ns (by kernel_rfl) (by kernel_rfl) HPN (fun w hw o ho => run_ldK hk.len ho e2 w hw) hH ?_
  refine wpAnyH_as (l' := #[true, false, false, false, false, false]) (by kernel_rfl) ?_
  refine takeH (v := .slice a n cap) opCk4_1 opCk4_ns (by kernel_rfl) (by kernel_rfl) HPN (fun w hw o ho => run_move ho (by rw [eval_put_ne _ _ _ _ (by decide)]; exact e1) w) hH ?_
  refine wpAnyH_as (l' := #[true, true, false, false, false, false]) (by kernel_rfl) ?_
  exact L0 _ h0.drew
end Go.Proofs.Ytgfamcadgahiiaa
namespace Go.Proofs.Ytgfamcadgahiiaa
set_option linter.unusedSimpArgs false
set_option linter.unusedVariables false
open Go.ChangeShapes Go.WideShapes Go.ChangeAt Go.RowKit Go.Pin Go.Prm
theorem ifl_is (b : Bool) : ifl b = (1, if b then 1 else 0) := by cases b <;> rfl
set_option maxRecDepth 100000 in
theorem echeck_any (w : World) (ns : List Nat) (a : Option Addr) (cap n : Nat) (hn : ns.length = n) (hR : RdN w a ns) (hl : n ≤ 1000) (hs : ns.sum ≤ 131072) (b : Bool) :
    Calls Try.prog 30 #[.slice a n cap, .bool b] w fun e w' => ∃ u, e = .returned u ∧ Evl w.heap.size w u (olg ns ++ [ifl b]) w' := by
  have HE : Hid _ := eof_any w ns a cap n hn hR hl hs
  have HO : Hid ((olg ns).length ≤ 900000) := by
    have := olg_len ns
    show (olg ns).length ≤ 900000
    omega
  clear hn hR hl hs
  obtain ⟨OL, hOL⟩ : ∃ OL, olg ns = OL := ⟨_, rfl⟩
  rw [hOL] at HE HO ⊢
  clear hOL
  rw [ifl_is]
  have HIF : Hid (∀ w, Calls Try.prog 33 #[.bool b] w fun e w' => e = .returned (.agg #[.int .i64 1, .int .i64 (if b then 1 else 0)]) ∧ w' = w.alloc (.cells #[.int .i64 1, .int .i64 (if b then 1 else 0)] 82)) := rif2 b
  obtain ⟨c, hc⟩ : ∃ c : Int, (if b then 1 else 0) = c := ⟨_, rfl⟩
  rw [hc] at HIF ⊢
  clear hc
  go_enter Try.func30, Try.ntmps30
  go_wp2_with (first | (go_at_call 26; refine Calls.mono HE.out ?_; rintro e w1 ⟨u1, rfl, h1⟩; have H1 : Hid _ := h1; clear h1; have HAP : Hid (∀ ty, ∃ v' w', (Builtin.append_ #[31, 31] ty #[u1, .slice (some ⟨w1.heap.size + 1, 0, none⟩) 1 1]).run Try.prog ((w1.alloc (.cells #[.int .i64 1, .int .i64 c] 82)).alloc (.cells #[.int .i64 1, .int .i64 c] 82)) = .ok v' w' ∧ Evl w.heap.size w v' (OL ++ [(1, c)]) w') := fun ty => H1.out.app (((Below.refl _ _).alloc (Nat.le_refl _) _).alloc (by simp) _) [(1, c)] rfl (by rw [heap_alloc_any, if_pos (by simp [size_alloc])]; rfl) (by have := HO.out; simp only [List.length_cons, List.length_nil]; omega) ty) | (go_at_call 33; refine (HIF.out _).mono ?_; rintro e wi ⟨rfl, hw⟩; obtain rfl := hw) | (at_builtin; refine wpList_app _ rfl (.tmp 8) (.tmp 11) 31 31 rfl _ _ rfl rfl HAP.out ?_; intro av aw ah; have aH : Hid _ := ah; clear ah HAP))
  go_ret
  exact ⟨av, rfl, aH.out⟩
/-- a Recorder as New makes it -/
abbrev bxR : Obj := .cells #[.slice none 0 0, .int .i64 0] 78
theorem Ev.recOf {B : Nat} {w : World} {R : Nat} {l : List (Int × Int)} {bx : List (Nat × Obj)} {W : World} (h : Ev B w (.pointer (some ⟨R, 0, none⟩)) l bx W) : ∃ vs, Rec B W R vs l ∧ ∀ p ∈ bx, ¬ Blk R vs p.1 := by
  rcases h.rc with e | ⟨R', vs, e, h2, h3⟩
  · cases e
  · injection e with e; injection e with e; injection e with e1; subst e1
    exact ⟨vs, h2, h3⟩
theorem rec_zero {B : Nat} {W : World} {S : Nat} (hS : W.heap[S]? = some bxR) (hB : B ≤ S) : Rec B W S (.slice none 0 0) [] :=
  ⟨hB, hS, World.ownsRow_nil _ _ _ _⟩
theorem blk_list {B : Nat} {W : World} {R : Nat} {vs : Value} {l : List (Int × Int)} (h : Rec B W R vs l) : ∃ bl : List (Nat × Obj), (∀ k, Blk R vs k → ∃ o, (k, o) ∈ bl) ∧ (∀ p ∈ bl, Blk R vs p.1 ∧ W.heap[p.1]? = some p.2) := by
  have g : ∀ k, Blk R vs k → ∃ o, W.heap[k]? = some o := fun k hk => ⟨_, Array.getElem?_eq_getElem (h.lt k hk)⟩
  obtain ⟨o1, h1⟩ := g R (.inl rfl)
  cases hv : vs.ownBlock with
  | none =>
    refine ⟨[(R, o1)], fun k hk => ?_, fun p hp => ?_⟩
    · rcases hk with rfl | hk
      · exact ⟨o1, by simp⟩
      · rw [hv] at hk; cases hk
    · simp at hp; subst hp; exact ⟨.inl rfl, h1⟩
  | some g2 =>
    obtain ⟨o2, h2⟩ := g g2 (.inr hv)
    refine ⟨[(R, o1), (g2, o2)], fun k hk => ?_, fun p hp => ?_⟩
    · rcases hk with rfl | hk
      · exact ⟨o1, by simp⟩
      · rw [hv] at hk; injection hk with hk; subst hk; exact ⟨o2, by simp⟩
    · simp at hp
      rcases hp with rfl | rfl
      · exact ⟨.inl rfl, h1⟩
      · exact ⟨.inr hv, h2⟩
/-- a Recorder's blocks are boxes, they are as they were -/
theorem Ev.keeps {B : Nat} {w W W' : World} {rv : Value} {m l : List (Int × Int)} {bx : List (Nat × Obj)} {R : Nat} {vs : Value} (h : Ev B w rv m bx W') (hr : Rec B W R vs l) (hb : ∀ k, Blk R vs k → ∃ o, (k, o) ∈ bx ∧ W.heap[k]? = some o) : Rec B W' R vs l := by
  have he : ∀ k, Blk R vs k → W'.heap[k]? = W.heap[k]? := fun k hk => by
    obtain ⟨o, h1, h2⟩ := hb k hk
    rw [h.row h1, h2]
  refine ⟨hr.1, (he R (.inl rfl)).trans hr.2.1, hr.2.2.1, ?_⟩
  rcases hr.2.2.2 with h0 | ⟨g, cap, cur, e, hb, hg, hr⟩
  · exact .inl h0
  · exact .inr ⟨g, cap, cur, e, hb, (he g (.inr (by rw [e]; rfl))).trans hg, hr⟩
/-- another Recorder, as New makes it, takes the place of the one that logged: his blocks are boxes -/
theorem TL.switch {B : Nat} {w : World} {R S : Nat} {l : List (Int × Int)} {bx : List (Nat × Obj)} {xs ys : List Value} {v u : Value} {W : World} (h : TL B w (.pointer (some ⟨R, 0, none⟩)) l ((S, bxR) :: bx) xs ys v u W) (hne : ∀ p ∈ bx, p.1 ≠ S) :
    ∃ vs bl, Rec B W R vs l ∧ (∀ k, Blk R vs k → ∃ o, (k, o) ∈ bl ∧ W.heap[k]? = some o) ∧ TL B w (.pointer (some ⟨S, 0, none⟩)) [] (bl ++ bx) xs ys v u W := by
  obtain ⟨l1, l2, h1, h2, h3, h4, h5⟩ := h
  obtain ⟨vs, r1, r2⟩ := h3.recOf
  obtain ⟨bl, c1, c2⟩ := blk_list r1
  have hS : (S, bxR) ∈ l1 ++ (l2 ++ ((S, bxR) :: bx)) := List.mem_append_right _ (List.mem_append_right _ mem0)
  refine ⟨vs, bl, r1, fun k hk => ?_, l1, l2, h1, h2, ⟨h3.old, h3.le, fun p hp => ?_, fun p hp => ?_, .inr ⟨S, _, rfl, rec_zero (h3.row hS) (h3.ge _ hS), fun p hp hk => ?_⟩⟩, fun p hp q hq => ?_, fun p hp q hq => ?_⟩
  · obtain ⟨o, ho⟩ := c1 k hk
    exact ⟨o, ho, (c2 _ ho).2⟩
  · simp only [List.mem_append] at hp
    rcases hp with hp | hp | hp | hp
    · exact h3.ge p (List.mem_append_left _ hp)
    · exact h3.ge p (List.mem_append_right _ (List.mem_append_left _ hp))
    · exact r1.ge _ (c2 p hp).1
    · exact h3.ge p (List.mem_append_right _ (List.mem_append_right _ (List.mem_cons_of_mem _ hp)))
  · simp only [List.mem_append] at hp
    rcases hp with hp | hp | hp | hp
    · exact h3.at' p (List.mem_append_left _ hp)
    · exact h3.at' p (List.mem_append_right _ (List.mem_append_left _ hp))
    · exact (c2 p hp).2
    · exact h3.at' p (List.mem_append_right _ (List.mem_append_right _ (List.mem_cons_of_mem _ hp)))
  · rcases hk with hk | hk
    · simp only [List.mem_append] at hp
      rcases hp with hp | hp | hp | hp
      · exact h4 p hp (S, bxR) (List.mem_append_right _ mem0) hk.symm
      · exact h5 p hp (S, bxR) mem0 hk.symm
      · exact r2 (S, bxR) hS (by have := (c2 p hp).1; rw [hk] at this; exact this)
      · exact hne p hp hk
    · cases hk
  · simp only [List.mem_append] at hq
    rcases hq with hq | hq | hq
    · exact h4 p hp q (List.mem_append_left _ hq)
    · intro e
      exact r2 p (List.mem_append_left _ hp) (by have := (c2 q hq).1; rw [e] at this; exact this)
    · exact h4 p hp q (List.mem_append_right _ (List.mem_cons_of_mem _ hq))
  · simp only [List.mem_append] at hq
    rcases hq with hq | hq
    · intro e
      exact r2 p (List.mem_append_right _ (List.mem_append_left _ hp)) (by have := (c2 q hq).1; rw [e] at this; exact this)
    · exact h5 p hp q (List.mem_cons_of_mem _ hq)
/-- Check over the parts -/
theorem TL.check {B : Nat} {w : World} {rv : Value} {l : List (Int × Int)} {bx : List (Nat × Obj)} {K : List (Nat × List Int)} {xs : List Value} {v u : Value} {W : World} (h : TL B w rv l bx xs (K.map prt) v u W) (hr : ∀ p ∈ rbx K, p ∈ bx) {key tg : List Int} (hk : Key32 key) (ht : Tag16 tg) (hD : BytL (K.map Prod.snd)) (hn : K.length ≤ 1000) (hl : rv ≠ .pointer none → l.length + 25 * K.length + (K.map Prod.snd).flatten.length ≤ 600000) :
    Calls Try.prog 29 #[rv, .agg (VI .u8 key), .agg (VI .u8 tg), u] W fun e w' => e = .returned (.bool (decide (mtag key (K.map Prod.snd).flatten = tg))) ∧ TL B w rv (l ++ olg ((K.map Prod.snd).map List.length) ++ [ifl (decide (mtag key (K.map Prod.snd).flatten = tg))]) bx xs (K.map prt) v u w' := by
  obtain ⟨l1, l2, h1, h2, h3, h4, h5⟩ := h
  obtain ⟨au, cu, hu, hP⟩ := psrc_prt (B := B) (w := w) h2 (by unfold maxLen; omega) (bx := l1 ++ (l2 ++ bx)) (fun p hp => List.mem_append_right _ (List.mem_append_left _ hp)) (fun p hp => List.mem_append_right _ (List.mem_append_right _ (hr p hp)))
  subst hu
  refine (check_any h3 hk ht hP hD hl).mono ?_
  rintro e w' ⟨rfl, h6⟩
  exact ⟨rfl, l1, l2, h1, h2, h6, h4, h5⟩
end Go.Proofs.Ytgfamcadgahiiaa
namespace Go.Proofs.Ytgfamcadgahiiaa
set_option linter.unusedSimpArgs false
set_option linter.unusedVariables false
open Go.ChangeShapes Go.WideShapes Go.ChangeAt Go.RowKit Go.Pin Go.Prm
theorem PSrc.up {q : Nat} {W Y : World} {a : Option Addr} {n : Nat} {Ds : List (List Int)} (h : PSrc q W [] a n Ds) (hY : Below q W Y) (hq : q ≤ Y.heap.size) : PSrc Y.heap.size Y [] a n Ds := by
  refine ⟨h.1, fun j hj => ?_⟩
  obtain ⟨b, o, u, h1, h2, h3⟩ := h.2 j hj
  refine ⟨b, o, u, h1, fun Z hZ hq' => h2 Z (hY.trans (hZ.mono hq)) hq', ?_⟩
  obtain ⟨a', cap, e1, e2, e3⟩ := h3
  refine ⟨a', cap, e1, e2, ?_⟩
  rcases e3 with e3 | ⟨b', o', e3, e4⟩
  · exact .inl e3
  · exact .inr ⟨b', o', e3, fun Z hZ hq' => e4 Z (hY.trans (hZ.mono hq)) hq'⟩
theorem lens_up {q : Nat} {W : World} {a : Option Addr} {n cap : Nat} {Ds : List (List Int)} (h : PSrc q W [] a n Ds) (hn : n ≤ 400) {Z : World} (hZ : Below q W Z) (hq : q ≤ Z.heap.size) (Y : World) (hY : Below Z.heap.size Z Y) :
    Calls Try.prog 27 #[.slice a n cap] Y fun e Y' => ∃ al cl, e = .returned (.slice al n cl) ∧ RdN Y' al (Ds.map List.length) ∧ Below Y.heap.size Y Y' := by
  have hq' : q ≤ Y.heap.size := Nat.le_trans hq hY.size
  refine (lens_any (cap := cap) (ev_nil' Y) (h.up (hZ.trans (hY.mono hq)) hq') (by omega)).mono ?_
  rintro e Y' ⟨v, rfl, hv⟩
  obtain ⟨al, cl, rfl, hr⟩ := hv.rdn h.1.1
  exact ⟨al, cl, rfl, hr, hv.ev.old⟩
theorem events_up {B : Nat} {Z : World} {R : Nat} {vs : Value} {l : List (Int × Int)} (h : Rec B Z R vs l) (hl : l.length ≤ 1000000) (Y : World) (hY : Below Z.heap.size Z Y) : Calls Try.prog 20 #[.pointer (some ⟨R, 0, none⟩)] Y fun e Y' => ∃ u, e = .returned u ∧ Y'.ownsRow Y.heap.size 82 2 u l.length (evC l) ∧ Below Y.heap.size Y Y' :=
  tEvents_any _ vs l hl Y (h.below hY).opt
set_option maxRecDepth 100000 in
set_option maxHeartbeats 16000000 in
theorem checks_walk (key : List Int) (hk : Key32 key) (tg : List Int) (htg : Tag16 tg) (Ds : List (List Int)) (hD : BytL Ds) (a : Option Addr) (cap : Nat) (W : World) (hR : PRd W a Ds) (hz : ∀ D ∈ Ds, D.length ≤ reachBytes) (hm : Ds.length ≤ maxLen) :
    Calls Try.prog 5 #[.agg (VI .u8 key), .agg (VI .u8 tg), .slice a Ds.length cap] W fun e w' => e = .returned (.bool true) ∧ Below W.heap.size W w' := by
  have e1 := ((ev_nil' W).new (.cells (VI .u8 key) 23)).new (.cells (VI .u8 tg) 36)
  have hsrc := fun bx => hR.src hm bx
  obtain ⟨q, hq⟩ : ∃ q, W.heap.size = q := ⟨_, rfl⟩
  rw [hq] at hsrc
  simp only [size_alloc, hq] at e1
  obtain ⟨V0, hV0⟩ : ∃ V, W.alloc (.cells (VI .u8 key) 23) = V := ⟨_, rfl⟩
  obtain ⟨W0, hW0⟩ : ∃ V, V0.alloc (.cells (VI .u8 tg) 36) = V := ⟨_, rfl⟩
  have hsV : V0.heap.size = q + 1 := by rw [← hV0, size_alloc, hq]
  rw [hV0, hW0] at e1
  rw [hq]
  obtain ⟨n, hn⟩ : ∃ n, Ds.length = n := ⟨_, rfl⟩
  rw [hn] at hsrc ⊢
  have HS : Hid (∀ bx, PSrc q W bx a n Ds) := hsrc
  have HK : Hid (Key32 key ∧ BytL Ds ∧ Ds.length = n ∧ Tag16 tg) := ⟨hk, hD, hn, htg⟩
  have HI : Hid ((Try.prog.info? 23).map (·.size) = some (VI .u8 key).size) := by
    have : (Try.prog.info? 23).map (·.size) = some (VI .u8 key).size := by rw [VI_size, hk.len]; exact infoK
    exact this
  have HJ : Hid ((Try.prog.info? 23).map (·.size) = some key.length) := by
    have : (Try.prog.info? 23).map (·.size) = some key.length := by rw [hk.len]; exact infoK
    exact this
  have HJT : Hid ((Try.prog.info? 36).map (·.size) = some tg.length) := by
    have : (Try.prog.info? 36).map (·.size) = some tg.length := by rw [htg.len]; exact infoT
    exact this
  have CL : Hid (Calls Try.prog 22 #[.slice a n cap] W0 fun e w' => e = .returned (.bool (lng Ds)) ∧ w' = W0) := long_any e1 (hsrc _) (fun D hD => Nat.le_trans (hz D hD) (by decide))
  have HB0 : Hid (Below q W W0) := e1.old
  by_cases hlg : lng Ds = true
  · rw [hlg] at CL
    clear e1 hsrc hk hD hR hz hm hn htg
    go_enter Try.func5, Try.ntmps5
    go_wp2_with (first | (go_at_call 22; refine Calls.mono CL.out ?_; rintro e V9 ⟨rfl, hV⟩; obtain rfl := hV))
    go_ret
    exact ⟨rfl, HB0.out⟩
  · have hlf : lng Ds = false := by simpa using hlg
    rw [hlf] at CL
    obtain ⟨hn4, hfl⟩ := lng_false hlf
    rw [hn] at hn4
    have hD1 : ∀ D ∈ Ds, D.length ≤ 131072 := fun D hD => by
      obtain ⟨i, hi, rfl⟩ := List.mem_iff_getElem.1 hD
      have := take_sum Ds i
      rw [List.getD_eq_getElem?_getD, List.getElem?_eq_getElem hi] at this
      simp only [Option.getD_some] at this
      omega
    have HN : Hid (n ≤ 400 ∧ Ds.flatten.length ≤ 131072 ∧ ∀ D ∈ Ds, D.length ≤ 131072) := ⟨hn4, hfl, hD1⟩
    have CT : Hid _ := twins_any (cap := cap) e1 (hsrc _) hn4 hD1
    clear e1 hsrc hk hD hR hz hm hn hn4 hfl hD1 hlg hlf htg
    go_enter Try.func5, Try.ntmps5
    go_upto_region 4 with (first | (go_at_call 22; refine Calls.mono CL.out ?_; rintro e V9 ⟨rfl, hV⟩; obtain rfl := hV) | (go_at_call 23; refine Calls.mono CT.out ?_; rintro e W1 ⟨v1, v2, rfl, h1⟩; have H1 : Hid _ := h1; clear h1))
    obtain ⟨K, hK1, hK2, hK3, ht⟩ := H1.out
    have HKK : Hid (K.map Prod.snd = Ds ∧ (K.map Prod.fst).Nodup ∧ K.length = n) := ⟨hK1, hK2, by rw [← HK.out.2.2.1, ← hK1, List.length_map]⟩
    obtain ⟨l1, l2, k1, k2, k3, k4, k5⟩ := ht
    have HLL : Hid (Lst 30 1 v1 (K.map whl).length (K.map whl) l1 ∧ Lst 30 1 v2 (K.map prt).length (K.map prt) l2 ∧ (∀ p ∈ l1, ∀ r ∈ l2 ++ (rbx K ++ [(q + 1, Obj.cells (VI .u8 tg) 36), (q, .cells (VI .u8 key) 23)]), r.1 ≠ p.1) ∧ (∀ p ∈ l2, ∀ r ∈ (rbx K ++ [(q + 1, Obj.cells (VI .u8 tg) 36), (q, .cells (VI .u8 key) 23)]), r.1 ≠ p.1)) := ⟨k1, k2, k4, k5⟩
    have H4 : Hid (Ev q W (.pointer none) [] (l1 ++ (l2 ++ (rbx K ++ [(q + 1, Obj.cells (VI .u8 tg) 36), (q, .cells (VI .u8 key) 23)]))) W1) := k3
    obtain ⟨T, hT⟩ : ∃ T, mtag key Ds.flatten = T := ⟨_, rfl⟩
    have HT : Hid (mtag key Ds.flatten = T ∧ T.length = 16 ∧ Tag16 T) := ⟨hT, by rw [← hT]; exact mtag_len _ _, by rw [← hT]; exact mtag_t _ _⟩
    clear k1 k2 k3 k4 k5 H1 CT CL hK1 hK2 hK3 hT hW0 hV0 hsV
    refine wp_as (c' := rgCk4) (by kernel_rfl) ?_
    refine Ck4 (bx := l1 ++ (l2 ++ (rbx K ++ [(q + 1, Obj.cells (VI .u8 tg) 36), (q, .cells (VI .u8 key) 23)]))) HK.out.1 (HS.out _) HK.out.2.1 (by have := HN.out.1; omega) HN.out.2.1 H4.out (List.mem_append_right _ (List.mem_append_right _ (List.mem_append_right _ mem1))) rfl rfl rfl (fun _ _ d _ _ h => by cases d <;> exact h) ?_
    intro vj p9 Y hf hY
    rw [HT.out.1] at hY
    have h5 : TL q W (.pointer none) [] ((p9, Obj.cells (VI .u8 T) 36) :: (rbx K ++ [(q + 1, Obj.cells (VI .u8 tg) 36), (q, .cells (VI .u8 key) 23)])) (K.map whl) (K.map prt) v1 v2 Y := ⟨l1, l2, HLL.out.1, HLL.out.2.1, hY.sub (fun p hp => by
      simp only [List.mem_append, List.mem_cons] at hp ⊢
      rcases hp with hp | hp | hp | hp
      · exact .inr (.inl hp)
      · exact .inr (.inr (.inl hp))
      · exact .inl hp
      · exact .inr (.inr (.inr hp))), fun p hp r hr => by
      simp only [List.mem_append, List.mem_cons] at hr
      rcases hr with hr | rfl | hr
      · exact HLL.out.2.2.1 p hp r (List.mem_append_left _ hr)
      · exact fun e => hf p (List.mem_append_left _ hp) e.symm
      · exact HLL.out.2.2.1 p hp r (List.mem_append_right _ (by simpa using hr)), fun p hp r hr => by
      rcases List.mem_cons.1 hr with rfl | hr
      · exact fun e => hf p (List.mem_append_right _ (List.mem_append_left _ hp)) e.symm
      · exact HLL.out.2.2.2 p hp r hr⟩
    rw [HT.out.1]
    have h6 := h5.withRec
    obtain ⟨R, hR⟩ : ∃ R, Y.heap.size = R := ⟨_, rfl⟩
    have CN1 : Hid (Calls Try.prog 9 #[] Y fun e w' => e = .returned (.pointer (some ⟨R, 0, none⟩)) ∧ w' = Y.alloc bxR) := by
      have := new_any Y
      rw [hR] at this
      exact this
    obtain ⟨W2, hW2⟩ : ∃ V, Y.alloc bxR = V := ⟨_, rfl⟩
    rw [hR, hW2] at h6
    rw [hW2] at CN1
    have h7 := TL.box h6 (W' := W2.alloc bxR) ((Below.refl _ _).alloc (Nat.le_refl _) _) (Nat.le_refl _) (heap_alloc_new W2 _)
    obtain ⟨S, hS⟩ : ∃ S, W2.heap.size = S := ⟨_, rfl⟩
    have CN2 : Hid (Calls Try.prog 9 #[] W2 fun e w' => e = .returned (.pointer (some ⟨S, 0, none⟩)) ∧ w' = W2.alloc bxR) := by
      have := new_any W2
      rw [hS] at this
      exact this
    obtain ⟨W3, hW3⟩ : ∃ V, W2.alloc bxR = V := ⟨_, rfl⟩
    have HNE : Hid (∀ p ∈ ((p9, Obj.cells (VI .u8 T) 36) :: (rbx K ++ [(q + 1, Obj.cells (VI .u8 tg) 36), (q, .cells (VI .u8 key) 23)])), p.1 ≠ S) := fun p hp => by
      have := heap_lt ((TL.ev h6).at' p hp)
      omega
    rw [hS, hW3] at h7
    rw [hW3] at CN2
    have H7 : Hid (TL q W (.pointer (some ⟨R, 0, none⟩)) [] ((S, bxR) :: ((p9, Obj.cells (VI .u8 T) 36) :: (rbx K ++ [(q + 1, Obj.cells (VI .u8 tg) 36), (q, .cells (VI .u8 key) 23)]))) (K.map whl) (K.map prt) v1 v2 W3) := h7
    clear h5 h6 h7 hY hf hR hS hW2 hW3 H4 HLL
    simp only [Act.put, List.setIfInBounds_toArray, List.set_cons_zero, List.set_cons_succ]
    go_upto_region 6 with (first | (go_at_call 9; refine Calls.mono CN1.out ?_; rintro e V2 ⟨rfl, hV⟩; obtain rfl := hV))
    clear CN1
    go_upto_region 7 with (first | (go_at_call 9; refine Calls.mono CN2.out ?_; rintro e V3 ⟨rfl, hV⟩; obtain rfl := hV))
    clear CN2
    obtain ⟨OL, hOL⟩ : ∃ OL, olg (Ds.map List.length) = OL := ⟨_, rfl⟩
    have HOL : Hid (olg (Ds.map List.length) = OL ∧ OL.length ≤ 300000) := ⟨hOL, by
      rw [← hOL]
      have := olg_len (Ds.map List.length)
      rw [← flat_len, List.length_map, HK.out.2.2.1] at this
      have := HN.out.1
      have := HN.out.2.1
      omega⟩
    obtain ⟨c, hc⟩ : ∃ c : Bool, decide (T = tg) = c := ⟨_, rfl⟩
    have HC : Hid (decide (T = tg) = c) := hc
    have HLR : Hid (V3.rangeAt q 0 (key.map (Value.int .u8)) ∧ V3.rangeAt (q + 1) 0 (tg.map (Value.int .u8))) := ⟨row_range ((TL.ev H7.out).row (List.mem_cons_of_mem _ (List.mem_cons_of_mem _ (List.mem_append_right _ mem1)))), row_range ((TL.ev H7.out).row (List.mem_cons_of_mem _ (List.mem_cons_of_mem _ (List.mem_append_right _ mem0))))⟩
    have hck := TL.check H7.out (fun p hp => List.mem_cons_of_mem _ (List.mem_cons_of_mem _ (List.mem_append_left _ hp))) HK.out.1 HK.out.2.2.2 (by rw [HKK.out.1]; exact HK.out.2.1) (by rw [HKK.out.2.2]; have := HN.out.1; omega) (fun _ => by rw [HKK.out.2.2, HKK.out.1]; have := HN.out.1; have := HN.out.2.1; simp only [List.length_nil]; omega)
    rw [HKK.out.1, HT.out.1, hc, hOL, List.nil_append] at hck
    have CK1 : Hid (Calls Try.prog 29 #[(.pointer (some ⟨R, 0, none⟩)), .agg (VI .u8 key), .agg (VI .u8 tg), v2] V3 fun e w' => e = .returned (.bool c) ∧ TL q W (.pointer (some ⟨R, 0, none⟩)) (OL ++ [ifl c]) ((S, bxR) :: ((p9, Obj.cells (VI .u8 T) 36) :: (rbx K ++ [(q + 1, Obj.cells (VI .u8 tg) 36), (q, .cells (VI .u8 key) 23)]))) (K.map whl) (K.map prt) v1 v2 w') := hck
    clear hck H7 hc hOL
    go_upto_region 8 with (first | (go_at_call 29; refine Calls.mono CK1.out ?_; rintro e W4 ⟨rfl, h8⟩; have H8 : Hid _ := h8; clear h8 CK1) | (with_reducible refine at_list ?_; first | (refine load_midI rfl 23 (.tmp 3) rfl q 0 rfl .u8 key _ HLR.out.1 Try.underlying23 rfl HJ.out ?_) | (refine load_midI rfl 36 (.tmp 4) rfl (q + 1) 0 rfl .u8 tg _ HLR.out.2 Try.underlying36 rfl HJT.out ?_)))
    obtain ⟨vs, bl, hrec, hbl, h9⟩ := TL.switch H8.out HNE.out
    have HJ9 : Hid ((Try.prog.info? 36).map (·.size) = some T.length) := by
      have : (Try.prog.info? 36).map (·.size) = some T.length := by rw [HT.out.2.1]; exact infoT
      exact this
    have HLQ : Hid (W4.rangeAt q 0 (key.map (Value.int .u8)) ∧ W4.rangeAt p9 0 (T.map (Value.int .u8))) := ⟨row_range ((TL.ev h9).row (List.mem_append_right _ (List.mem_cons_of_mem _ (List.mem_append_right _ mem1)))), row_range ((TL.ev h9).row (List.mem_append_right _ mem0))⟩
    have hck := TL.check h9 (fun p hp => List.mem_append_right _ (List.mem_cons_of_mem _ (List.mem_append_left _ hp))) HK.out.1 HT.out.2.2 (by rw [HKK.out.1]; exact HK.out.2.1) (by rw [HKK.out.2.2]; have := HN.out.1; omega) (fun _ => by rw [HKK.out.2.2, HKK.out.1]; have := HN.out.1; have := HN.out.2.1; simp only [List.length_nil]; omega)
    rw [HKK.out.1, HT.out.1, HOL.out.1, List.nil_append, decide_eq_true rfl] at hck
    have CK2 : Hid (Calls Try.prog 29 #[(.pointer (some ⟨S, 0, none⟩)), .agg (VI .u8 key), .agg (VI .u8 T), v2] W4 fun e w' => e = .returned (.bool true) ∧ TL q W (.pointer (some ⟨S, 0, none⟩)) (OL ++ [ifl true]) (bl ++ ((p9, Obj.cells (VI .u8 T) 36) :: (rbx K ++ [(q + 1, Obj.cells (VI .u8 tg) 36), (q, .cells (VI .u8 key) 23)]))) (K.map whl) (K.map prt) v1 v2 w') := hck
    have HRC : Hid (Rec q W4 R vs (OL ++ [ifl c]) ∧ ∀ k, Blk R vs k → ∃ o, (k, o) ∈ bl ∧ W4.heap[k]? = some o) := ⟨hrec, hbl⟩
    have HSZ : Hid (TL q W (.pointer (some ⟨S, 0, none⟩)) [] (bl ++ ((p9, Obj.cells (VI .u8 T) 36) :: (rbx K ++ [(q + 1, Obj.cells (VI .u8 tg) 36), (q, .cells (VI .u8 key) 23)]))) (K.map whl) (K.map prt) v1 v2 W4) := h9
    clear hck h9 hrec hbl HLR H8
    go_upto_region 9 with (first | (go_at_call 29; refine Calls.mono CK2.out ?_; rintro e W5 ⟨rfl, h8⟩; have H8 : Hid _ := h8; clear h8 CK2) | (with_reducible refine at_list ?_; first | (refine load_midI rfl 23 (.tmp 3) rfl q 0 rfl .u8 key _ HLQ.out.1 Try.underlying23 rfl HJ.out ?_) | (refine load_midI rfl 36 (.tmp 9) rfl p9 0 rfl .u8 T _ HLQ.out.2 Try.underlying36 rfl HJ9.out ?_)))
    have hev5 := TL.ev H8.out
    have hr5 := hev5.keeps HRC.out.1 (fun k hk => by
      obtain ⟨o, h1, h2⟩ := HRC.out.2 k hk
      exact ⟨o, List.mem_append_left _ h1, h2⟩)
    obtain ⟨vz, hz1, _⟩ := hev5.recOf
    have HER : Hid (∀ Y, Below W5.heap.size W5 Y → Calls Try.prog 20 #[.pointer (some ⟨R, 0, none⟩)] Y fun e Y' => ∃ u, e = .returned u ∧ Y'.ownsRow Y.heap.size 82 2 u (OL ++ [ifl c]).length (evC (OL ++ [ifl c])) ∧ Below Y.heap.size Y Y') := fun Y hY => events_up hr5 (by have := HOL.out.2; simp only [List.length_append, List.length_cons, List.length_nil]; omega) Y hY
    have HES0 : Hid (∀ Y, Below W5.heap.size W5 Y → Calls Try.prog 20 #[.pointer (some ⟨S, 0, none⟩)] Y fun e Y' => ∃ u, e = .returned u ∧ Y'.ownsRow Y.heap.size 82 2 u (OL ++ [ifl true]).length (evC (OL ++ [ifl true])) ∧ Below Y.heap.size Y Y') := fun Y hY => events_up hz1 (by have := HOL.out.2; simp only [List.length_append, List.length_cons, List.length_nil]; omega) Y hY
    have HLN : Hid (∀ Y, Below W5.heap.size W5 Y → Calls Try.prog 27 #[.slice a n cap] Y fun e Y' => ∃ al cl, e = .returned (.slice al n cl) ∧ RdN Y' al (Ds.map List.length) ∧ Below Y.heap.size Y Y') := fun Y hY => lens_up (HS.out []) HN.out.1 hev5.old hev5.le Y hY
    obtain ⟨a1, c1, a2, c2, rfl, rfl, hut⟩ := ut_of H8.out (fun p hp => List.mem_append_right _ (List.mem_cons_of_mem _ (List.mem_append_left _ hp))) (b0 := []) (fun p hp => nomatch hp) (by rw [HKK.out.1]; exact HS.out []) (fun p hp => HN.out.2.2 _ (by rw [← HKK.out.1]; exact List.mem_map.2 ⟨p, hp, rfl⟩))
    have HLZ : Hid (W5.rangeAt (q + 1) 0 (tg.map (Value.int .u8)) ∧ W5.rangeAt p9 0 (T.map (Value.int .u8))) := ⟨row_range (hev5.row (List.mem_append_right _ (List.mem_cons_of_mem _ (List.mem_append_right _ mem0)))), row_range (hev5.row (List.mem_append_right _ mem0))⟩
    have CU : Hid (Calls Try.prog 28 #[.slice a1 n c1, .slice a2 n c2, .slice a n cap] W5 fun e w' => e = .returned (.bool true) ∧ Below W5.heap.size W5 w') := untouched_any W5 a1 a2 a n c1 c2 cap HN.out.1 hut
    have EQ : ∀ w, (Op.equalIn 10000 36 (.agg (VI .u8 tg)) (.agg (VI .u8 T))).run Try.prog w = .ok c w := fun w => by
      rw [eqT HK.out.2.2.2.len HT.out.2.1, ← HC.out]
      congr 1
      rw [Bool.eq_iff_iff, beq_iff_eq, decide_eq_true_iff]
      exact eq_comm
    have H9 : Hid (Below q W W5 ∧ q ≤ W5.heap.size) := ⟨hev5.old, hev5.le⟩
    have HLC : Hid ([ifl c] = [ifl c]) := rfl
    clear hut hev5 hr5 hz1 H8 HRC HSZ HLQ
    have HKN : Hid (∀ Y, Calls Try.prog 21 #[] Y fun e w' => e = .returned (.bool true) ∧ Below Y.heap.size Y w') := known_any
    obtain ⟨LA, hLA⟩ : ∃ LA, (OL ++ [ifl c]) = LA := ⟨_, rfl⟩
    obtain ⟨LB, hLB⟩ : ∃ LB, (OL ++ [ifl true]) = LB := ⟨_, rfl⟩
    cases c
    all_goals
      go_upto_region 11 with (first | (go_at_call 28; refine Calls.mono CU.out ?_; rintro e W6 ⟨rfl, hb6⟩; have HB : Hid (Below W5.heap.size W5 W6) := hb6; clear hb6 CU) | (with_reducible refine at_list ?_; first | (refine load_midI rfl 36 (.tmp 4) rfl (q + 1) 0 rfl .u8 tg _ HLZ.out.1 Try.underlying36 rfl HJT.out ?_) | (refine load_midI rfl 36 (.tmp 9) rfl p9 0 rfl .u8 T _ HLZ.out.2 Try.underlying36 rfl HJ9.out ?_)))
    all_goals
      go_wp2_with (first | (go_at_call 20; refine Calls.mono (HES.out _ HB.out) ?_; rintro e Y1 ⟨ue, rfl, oe, hb⟩; have OE : Hid _ := oe; have HB1 : Hid (Below W5.heap.size W5 Y1) := HB.out.trans (hb.mono HB.out.size); clear HB hb oe HES) | (go_at_call 20; refine Calls.mono (HER.out _ HB.out) ?_; rintro e Y1 ⟨ue, rfl, oe, hb⟩; have OE : Hid _ := oe; have HB1 : Hid (Below W5.heap.size W5 Y1) := HB.out.trans (hb.mono HB.out.size); clear HB hb oe HER) | (go_at_call 27; refine Calls.mono (HLN.out _ HB1.out) ?_; rintro e Y2 ⟨al, cl, rfl, hrn, hb⟩; have OE2 : Hid _ := owns_below OE.out hb; have HB2 : Hid (Below W5.heap.size W5 Y2) := HB1.out.trans (hb.mono HB1.out.size); have CE : Hid _ := fun b => echeck_any Y2 (Ds.map List.length) al cl n (by rw [List.length_map]; exact HK.out.2.2.1) hrn (by have := HN.out.1; omega) (by rw [← flat_len]; exact HN.out.2.1) b; clear HB1 OE hb hrn) | (go_at_call 30; refine Calls.mono (CE.out _) ?_; rintro e Y3 ⟨ul, rfl, h3⟩; have OW := h3.own; rw [HOL.out.1] at OW; have CS : Hid _ := same_own (owns_below OE2.out h3.old) OW (by have := HOL.out.2; simp only [List.length_append, List.length_cons, List.length_nil]; omega); have HB3 : Hid (Below W5.heap.size W5 Y3) := HB2.out.trans (h3.old.mono HB2.out.size); clear HB2 OE2 CE h3 OW) | (go_at_call 19; refine Calls.mono CS.out ?_; rintro e Y4 ⟨rfl, hb⟩; have HB : Hid (Below W5.heap.size W5 Y4) := HB3.out.trans (hb.mono HB3.out.size); clear HB3 CS hb; try (have HES : Hid _ := HES0.out; clear HES0)) | (go_at_call 21; refine Calls.mono (HKN.out _) ?_; rintro e Y5 ⟨rfl, hb9⟩))
    all_goals
      go_ret
      exact ⟨rfl, H9.out.1.trans ((HB.out.trans (hb9.mono HB.out.size)).mono H9.out.2)⟩
end Go.Proofs.Ytgfamcadgahiiaa
namespace Go.Proofs.Ytgfamcadgahiiaa
set_option linter.unusedSimpArgs false
set_option linter.unusedVariables false
open Go.ChangeShapes Go.WideShapes Go.ChangeAt Go.RowKit Go.Pin Go.Prm Go.Deep
/-- bytes that came in, and how they are read -/
theorem open_cellsZ {H : Type} {enc : TypeId × Value → H} {W : World} {fuel : Nat} {cs : List Value} {x : DataW H × List MemPlace}
    (hf : DataW.trod enc Try.prog W 0 (fun _ => true) true fuel 30 cs = some x) : ∃ (v : Value) (D : List Int), cs = [v] ∧ RdB W v D ∧ Byt D ∧ ((x.1 = .nil ∧ D = []) ∨ ∃ es sp, x.1 = .slice es sp ∧ es.length = D.length) := by
  rcases open_ints Try.underlying30 Try.underlying5 (by kernel_rfl) hf with ⟨hcs, hx⟩ | ⟨y, l, c, zs, hcs, _, hl, hm, hz, hx, hcell, hwz⟩
  · exact ⟨_, [], hcs, ⟨none, 0, rfl, Nat.le_refl _, .inl rfl⟩, (fun x hx => nomatch hx), .inl ⟨by rw [hx], rfl⟩⟩
  · have hz' : zs.length = c := by simpa using hz
    have hl2 : (zs.take l).length = l := by rw [List.length_take]; omega
    refine ⟨_, zs.take l, hcs, ⟨some y, c, by rw [hl2], by rw [hl2]; exact hl, ?_⟩, fun y hy => u8_of (hwz y (List.mem_of_mem_take hy)), .inr ⟨_, _, by rw [hx], by simp [lits]⟩⟩
    by_cases e : l = 0
    · left; subst e; simp
    · right
      obtain ⟨b, o, rfl⟩ := add_spot (hcell 0 (by omega))
      refine ⟨b, o, rfl, fun j v hv => ?_⟩
      have hj : j < l := by have := (List.getElem?_eq_some_iff.1 hv).1; rw [List.length_map, hl2] at this; exact this
      have := hcell j (by omega)
      rw [add_mid] at this
      rw [this, ← hv]
      simp [List.getElem?_take_of_lt hj, show j < zs.length by omega]
theorem weightsAll_mem {H : Type} {P : Program} {e : TypeId} : ∀ {ds : List (DataW H)} {d : DataW H} {k : Nat}, d ∈ ds → k ∈ d.weights P e → k ∈ DataW.weightsAll P e ds
  | [], _, _, h, _ => nomatch h
  | d' :: r, d, k, h, hk => by
    rw [DataW.weightsAll]
    rcases List.mem_cons.1 h with rfl | h
    · exact List.mem_append_left _ hk
    · exact List.mem_append_right _ (weightsAll_mem h hk)
theorem bytes_u8 : Try.prog.bytesOf 5 = 1 := by kernel_rfl
theorem open_piecesZ {H : Type} {enc : TypeId × Value → H} {W : World} {a : Option Addr} {len cap : Nat} {d : DataW H} {p : List MemPlace}
    (h : DataW.Trod enc Try.prog W 0 (fun _ => true) true 48 (.slice a len cap) d p) (hs : ∀ k ∈ d.weights Try.prog 48, k ≤ reachBytes) : ∃ Ds : List (List Int), Ds.length = len ∧ BytL Ds ∧ PRd W a Ds ∧ (∀ D ∈ Ds, D.length ≤ reachBytes) ∧ len ≤ maxLen := by
  obtain ⟨fuel, hf⟩ := h
  rcases open_slice Try.underlying48 hf with ⟨hcs, _⟩ | ⟨x, len', cap', m, n, D, Pl, hcs, _, hl, hm, hmm, hxe, hx⟩
  · simp [Value.cells] at hcs
    obtain ⟨rfl, rfl, rfl⟩ := hcs
    exact ⟨[], rfl, (fun D hD => nomatch hD), (fun j hj => nomatch hj), (fun D hD => nomatch hD), Nat.zero_le _⟩
  · simp [Value.cells] at hcs
    obtain ⟨rfl, rfl, rfl⟩ := hcs
    have hlm : len ≤ m := by rw [hmm]; split <;> omega
    have ce : Try.prog.cellsOf 30 = 1 := by kernel_rfl
    have each : ∀ i, i < len → ∃ q : Value × List Int, W.cell? (x.add i) = some q.1 ∧ RdB W q.1 q.2 ∧ Byt q.2 ∧ q.2.length ≤ reachBytes := by
      intro i hi
      obtain ⟨cs', h1, h2⟩ := hx i (by omega)
      rw [ce] at h1
      obtain ⟨_, hlen, hcell⟩ := World.cells?_some h1
      obtain ⟨v, E, hc, hr, hb, hk⟩ := open_cellsZ h2
      refine ⟨(v, E), ?_, hr, hb, ?_⟩
      · have e := hcell 0 (by omega)
        rw [add_add, hc] at e
        simpa using e
      · show E.length ≤ reachBytes
        rcases hk with ⟨_, rfl⟩ | ⟨es, sp, e1, e2⟩
        · exact Nat.zero_le _
        · have hd : D i ∈ (List.range len).map D := List.mem_map.2 ⟨i, List.mem_range.2 hi, rfl⟩
          have hw : (es.length + sp.length) * Try.prog.bytesOf 5 ∈ (D i).weights Try.prog 30 := by
            simp only at e1
            rw [e1]
            simp [DataW.weights, Try.underlying30]
          have := hs _ (by
            rw [(Prod.mk.injEq ..).mp hxe |>.1] 
            simp only [DataW.weights, Try.underlying48]
            exact List.mem_cons_of_mem _ (List.mem_append_left _ (weightsAll_mem hd hw)))
          rw [bytes_u8] at this
          omega
    obtain ⟨q, hq⟩ := choose_lt each
    have hat : ∀ j, j < len → ((List.range len).map (fun i => (q i).2)).getD j [] = (q j).2 := fun j hj => by simp [List.getD, hj]
    refine ⟨(List.range len).map (fun i => (q i).2), by simp, fun D hD => ?_, fun j hj => ?_, fun D hD => ?_, by omega⟩
    · simp only [List.mem_map, List.mem_range] at hD
      obtain ⟨i, hi, rfl⟩ := hD
      exact (hq i hi).2.2.1
    · have hj' : j < len := by simpa using hj
      obtain ⟨b, o, rfl⟩ := add_spot (w := W) (x := x) (v := (q 0).1) (by exact (hq 0 (by omega)).1)
      have := (hq j hj').1
      rw [add_mid] at this
      refine ⟨b, o, (q j).1, rfl, this, ?_⟩
      rw [hat j hj']
      exact (hq j hj').2.1
    · simp only [List.mem_map, List.mem_range] at hD
      obtain ⟨i, hi, rfl⟩ := hD
      exact (hq i hi).2.2.2
end Go.Proofs.Ytgfamcadgahiiaa
