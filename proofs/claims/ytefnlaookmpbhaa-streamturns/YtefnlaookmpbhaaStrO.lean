import Derived.Test.YtefnlaookmpbhaaStrN
namespace Go.Proofs.Ytefnlaookmpbhaa
set_option linter.unusedSimpArgs false
set_option linter.unusedVariables false
open Go.ChangeShapes Go.WideShapes Go.ChangeAt Go.RowKit Go.Pin Go.Str
/-- the numbers of an XOR -/
structure XN where
  B : Nat
  w : World
  rv : Value
  l : List (Int × Int)
  key : List Nat
  c : Nat
  nonce : List Nat
  g : Nat
  L : List Nat
  T : TypeId
  fr : Nat × Nat
  o : Nat
  bx : List (Nat × Obj)
structure XN.ok (x : XN) (n : Nat) : Prop where
  hk : Bs 32 x.key
  hn : Bs 12 x.nonce
  hc : x.c < 4294967296
  hg : ∀ p ∈ x.bx, p.1 ≠ x.g
  hf : x.fr = (0, 0) ∨ x.L.length ≤ x.fr.1
  hL : ∀ y ∈ x.L, y < 256
  hl : x.l.length ≤ 500000
  ho : x.o + n ≤ x.L.length
/-- the state at byte a, the bytes turned up to b -/
def XN.st (x : XN) (m a b : Nat) (lg : List (Int × Int)) (wr : World) : Prop :=
  Ev x.B x.w x.rv (x.l ++ lg) ((m, .cells (VN .u32 (Str.st x.key (cat x.c a) x.nonce)) 68 (0, 0)) :: (x.g, .cells (VN .u8 (xr x.L x.o b (ks x.key x.c x.nonce))) x.T x.fr) :: x.bx) wr ∧ m ≠ x.g ∧ ∀ p ∈ x.bx, p.1 ≠ m
theorem mem_swap2 {α : Type} {a b p : α} {l : List α} (h : p ∈ a :: b :: l) : p ∈ b :: a :: l := by
  simp only [List.mem_cons] at h ⊢
  rcases h with h | h | h
  · exact .inr (.inl h)
  · exact .inl h
  · exact .inr (.inr h)
section
variable {x : XN} {n m a b : Nat} {lg : List (Int × Int)} {wr : World}
theorem XN.st.row (h : x.st m a b lg wr) : RW wr m (Str.st x.key (cat x.c a) x.nonce) 68 := h.1.row (List.mem_cons_self ..)
theorem XN.st.rb (ok : x.ok n) (h : x.st m a b lg wr) : RB wr x.g (xr x.L x.o b (ks x.key x.c x.nonce)) x.T x.fr :=
  ⟨h.1.row (List.mem_cons_of_mem _ (List.mem_cons_self ..)), by rw [xr_len]; exact ok.hf, xr_bd ok.hL (fun j => ks_lt _ _ _ _)⟩
theorem XN.st.below {w' : World} (h : x.st m a b lg wr) (hb : Below wr.heap.size wr w') : x.st m a b lg w' := ⟨h.1.below hb, h.2⟩
theorem XN.st.drew (h : x.st m a b lg wr) : x.st m a b lg wr.drew := ⟨h.1.drew, h.2⟩
theorem XN.st.len (ok : x.ok n) (h : lg.length ≤ 400000) : (x.l ++ lg).length ≤ 1000000 := by
  have := ok.hl
  rw [List.length_append]; omega
theorem XN.st.turned (h : x.st m a b lg wr) {w' : World} {b' : Nat} (hg : Grow (fun k => k = x.g) wr w') (hr : RB w' x.g (xr x.L x.o b' (ks x.key x.c x.nonce)) x.T x.fr) (ok : x.ok n) : x.st m a b' lg w' := by
  obtain ⟨h1, h2, h3⟩ := h
  have hp := h1.sub (by' := (x.g, .cells (VN .u8 (xr x.L x.o b (ks x.key x.c x.nonce))) x.T x.fr) :: (m, .cells (VN .u32 (Str.st x.key (cat x.c a) x.nonce)) 68 (0, 0)) :: x.bx) (fun p hp => mem_swap2 hp)
  have hs := hp.set rfl (fun p hp => by
    rcases List.mem_cons.1 hp with rfl | hp
    · exact h2
    · exact ok.hg p hp) hg hr.row
  exact ⟨hs.sub (fun p hp => mem_swap2 hp), h2, h3⟩
theorem XN.st.count (h : x.st m a b lg wr) (a' : Nat) : x.st m a' b lg (wr.setCell ⟨m, 12, none⟩ (.int .u32 ((cat x.c a' : Nat) : Int))) := by
  obtain ⟨h1, h2, h3⟩ := h
  have hr : RW wr m (Str.st x.key (cat x.c a) x.nonce) 68 := h1.row (List.mem_cons_self ..)
  have hr' := hr.set 12 (cat x.c a')
  rw [st_set] at hr'
  refine ⟨h1.set rfl (fun p hp => ?_) (Grow.of_but ((But.refl (fun k => k = m) wr).setCell (p := ⟨m, 12, none⟩) rfl _)) hr', h2, h3⟩
  rcases List.mem_cons.1 hp with rfl | hp
  · exact fun e => h2 e.symm
  · exact h3 p hp
theorem XN.st.ifs (ok : x.ok n) (h : x.st m a b lg wr) (hl : lg.length ≤ 400000) (t : Bool) : Calls Try.prog 30 #[x.rv, .bool t] wr fun e w' => e = .returned (.bool t) ∧ x.st m a b (lg ++ [(1, if t then 1 else 0)]) w' := by
  refine (v_if h.1 (XN.st.len ok hl) t).mono ?_
  rintro e w' ⟨he, h1⟩
  exact ⟨he, by rw [List.append_assoc] at h1; exact h1, h.2⟩
theorem XN.st.ats (ok : x.ok n) (h : x.st m a b lg wr) (hl : lg.length ≤ 400000) (v : Int) : Calls Try.prog 31 #[x.rv, .int .i64 v] wr fun e w' => e = .returned (.int .i64 v) ∧ x.st m a b (lg ++ [(2, v)]) w' := by
  refine (v_at h.1 (XN.st.len ok hl) v).mono ?_
  rintro e w' ⟨he, h1⟩
  exact ⟨he, by rw [List.append_assoc] at h1; exact h1, h.2⟩
theorem XN.st.ops (ok : x.ok n) (h : x.st m a b lg wr) (hl : lg.length ≤ 400000) (v : Int) : Calls Try.prog 26 #[x.rv, .int .i64 v] wr fun e w' => e = .returned (.tuple #[]) ∧ x.st m a b (lg ++ [(3, v)]) w' := by
  refine (v_op h.1 (XN.st.len ok hl) v).mono ?_
  rintro e w' ⟨he, h1⟩
  exact ⟨he, by rw [List.append_assoc] at h1; exact h1, h.2⟩
theorem XN.st.four (ok : x.ok n) (h : x.st m a a lg wr) (ha : a % 64 = 0) (hn : a + 256 ≤ n) : Calls Try.prog 32 #[.pointer (some ⟨x.g, x.o + a, none⟩), .agg (VN .u32 (Str.st x.key (cat x.c a) x.nonce))] wr fun e w' => e = .returned (.tuple #[]) ∧ x.st m a (a + 256) lg w' := by
  have ho := ok.ho
  refine (turnFour_any x.g (x.o + a) _ (st_st ok.hk ok.hn (cat_lt _ _)) _ _ _ wr (XN.st.rb ok h) (by rw [xr_len]; omega)).mono ?_
  rintro e w' ⟨he, h1, h2⟩
  rw [step4 _ _ _ _ _ _ ha] at h2
  exact ⟨he, h.turned h1 h2 ok⟩
theorem XN.st.one (ok : x.ok n) (h : x.st m a a lg wr) (ha : a % 64 = 0) (hn : a + 64 ≤ n) : Calls Try.prog 27 #[.pointer (some ⟨x.g, x.o + a, none⟩), .agg (VN .u32 (Str.st x.key (cat x.c a) x.nonce))] wr fun e w' => e = .returned (.tuple #[]) ∧ x.st m a (a + 64) lg w' := by
  have ho := ok.ho
  refine (turnOne_any x.g (x.o + a) _ (st_st ok.hk ok.hn (cat_lt _ _)) _ _ _ wr (XN.st.rb ok h) (by rw [xr_len]; omega)).mono ?_
  rintro e w' ⟨he, h1, h2⟩
  rw [step1 _ _ _ _ _ _ ha] at h2
  exact ⟨he, h.turned h1 h2 ok⟩
end
theorem lg1 {l : List (Int × Int)} {x : Int × Int} {n : Nat} (h : l.length ≤ n) : (l ++ [x]).length ≤ n + 1 := by simp; omega
theorem run_arr (w : World) (t : TypeId) (N : Nat) (ht : Try.prog.underlying t = some (.array N 5)) (a : Option Addr) (len cap : Nat) (h : N ≤ len) : (Instr.arrayAt t (.slice a len cap)).run Try.prog w = .ok (.pointer a) w := by
  simp [Instr.arrayAt, run_underlying ht, Nat.not_lt.2 h]
theorem run_all (w : World) (t : TypeId) (N g : Nat) (hN : 0 < N) (ht : Try.prog.underlying t = some (.array N 5)) : (Instr.sliceAt t (.pointer (some ⟨g, 0, none⟩)) none none none).run Try.prog w = .ok (.slice (some ⟨g, 0, none⟩) N N) w := by
  have e1 : ¬ N = 0 := by omega
  have e2 : (⟨g, 0, none⟩ : Addr).add 0 = ⟨g, 0, none⟩ := add_mid g 0 0
  simp [Instr.sliceAt, Instr.sureAddr, run_underlying ht, Instr.sliceBounds, run_sliceBound, size_u8, e1, e2]
/-- the last piece -/
theorem XN.st.tail {x : XN} {n m p cap : Nat} {lg : List (Int × Int)} {w4 : World} (ok : x.ok n) (h : x.st m p p lg w4) (hp : p % 64 = 0) (h1 : p < n) (h2 : n < p + 64) :
    ∃ W6 W7, w4.alloc (.cells #[.int .u8 0, .int .u8 0, .int .u8 0, .int .u8 0, .int .u8 0, .int .u8 0, .int .u8 0, .int .u8 0, .int .u8 0, .int .u8 0, .int .u8 0, .int .u8 0, .int .u8 0, .int .u8 0, .int .u8 0, .int .u8 0, .int .u8 0, .int .u8 0, .int .u8 0, .int .u8 0, .int .u8 0, .int .u8 0, .int .u8 0, .int .u8 0, .int .u8 0, .int .u8 0, .int .u8 0, .int .u8 0, .int .u8 0, .int .u8 0, .int .u8 0, .int .u8 0, .int .u8 0, .int .u8 0, .int .u8 0, .int .u8 0, .int .u8 0, .int .u8 0, .int .u8 0, .int .u8 0, .int .u8 0, .int .u8 0, .int .u8 0, .int .u8 0, .int .u8 0, .int .u8 0, .int .u8 0, .int .u8 0, .int .u8 0, .int .u8 0, .int .u8 0, .int .u8 0, .int .u8 0, .int .u8 0, .int .u8 0, .int .u8 0, .int .u8 0, .int .u8 0, .int .u8 0, .int .u8 0, .int .u8 0, .int .u8 0, .int .u8 0, .int .u8 0] 29) = W6 ∧
      (Builtin.copy_ #[40, 40] 3 #[.slice (some ⟨w4.heap.size, 0, none⟩) 64 64, .slice (some ⟨x.g, x.o + p, none⟩) (n - p) (cap - p)]).run Try.prog W6 = .ok (.int .i64 ((n - p : Nat) : Int)) W7 ∧
      RW W7 m (Str.st x.key (cat x.c p) x.nonce) 68 ∧
      Calls Try.prog 27 #[.pointer (some ⟨w4.heap.size, 0, none⟩), .agg (VN .u32 (Str.st x.key (cat x.c p) x.nonce))] W7 fun e w8 => e = .returned (.tuple #[]) ∧ ∃ W9,
        (Builtin.copy_ #[40, 40] 3 #[.slice (some ⟨x.g, x.o + p, none⟩) (n - p) (cap - p), .slice (some ⟨w4.heap.size, 0, none⟩) 64 64]).run Try.prog w8 = .ok (.int .i64 ((n - p : Nat) : Int)) W9 ∧
        Ev x.B x.w x.rv (x.l ++ lg) ((x.g, .cells (VN .u8 (xr x.L x.o n (ks x.key x.c x.nonce))) x.T x.fr) :: x.bx) W9 := by
  have ho := ok.ho
  have hg4 : x.g < w4.heap.size := h.1.lt (List.mem_cons_of_mem _ (List.mem_cons_self ..))
  have hm4 : m < w4.heap.size := h.1.lt (List.mem_cons_self ..)
  have hx4 : ∀ q ∈ x.bx, q.1 < w4.heap.size := fun q hq => heap_lt (h.1.at' q (List.mem_cons_of_mem _ (List.mem_cons_of_mem _ hq)))
  have rb4 := XN.st.rb ok h
  obtain ⟨M, hM⟩ : ∃ M, xr x.L x.o p (ks x.key x.c x.nonce) = M := ⟨_, rfl⟩
  have e6 := h.1.new (.cells (VN .u8 (List.replicate 64 0)) 29)
  rw [hM] at rb4 e6
  have lM : M.length = x.L.length := by rw [← hM, xr_len]
  obtain ⟨G, hG⟩ : ∃ G, w4.heap.size = G := ⟨_, rfl⟩
  obtain ⟨W6, hW6⟩ : ∃ W, w4.alloc (.cells (VN .u8 (List.replicate 64 0)) 29) = W := ⟨_, rfl⟩
  have rg6 : RB W6 x.g M x.T x.fr := by rw [← hW6]; exact rb4.below ((Below.refl _ _).alloc (Nat.le_refl _) _)
  rw [hW6, hG] at e6
  rw [hG] at hg4 hm4 hx4
  have rG6 : RB W6 G (List.replicate 64 0) 29 (0, 0) := ⟨e6.row (List.mem_cons_self ..), .inl rfl, fun y hy => by rw [List.eq_of_mem_replicate hy]; decide⟩
  have neG : ∀ q ∈ (m, Obj.cells (VN .u32 (Str.st x.key (cat x.c p) x.nonce)) 68 (0, 0)) :: (x.g, .cells (VN .u8 M) x.T x.fr) :: x.bx, q.1 ≠ G := fun q hq => by
    rcases List.mem_cons.1 hq with rfl | hq
    · show m ≠ G; omega
    · rcases List.mem_cons.1 hq with rfl | hq
      · show x.g ≠ G; omega
      · have := hx4 q hq; omega
  have c6 := run_copyB rG6 rg6 0 (x.o + p) 64 64 (n - p) (cap - p) (n - p) 3 (by simp only [Nat.min_def]; split <;> omega) (by simp; omega) (by rw [lM]; omega)
  have bS : ∀ y ∈ sub M (x.o + p) (n - p), y < 256 := sub_bd rg6.bd _ _
  have b7 : But (fun k => k = G) W6 (W6.setCells G 0 (cellsB (sub M (x.o + p) (n - p)))) := but_setCells _ _ _ _
  have r7 := RB.puts (sub M (x.o + p) (n - p)) 0 rG6 bS
  have e7 := e6.set rfl neG (Grow.of_but b7) r7.row
  obtain ⟨W7, hW7⟩ : ∃ W, W6.setCells G 0 (cellsB (sub M (x.o + p) (n - p))) = W := ⟨_, rfl⟩
  rw [hW7] at c6 b7 r7 e7
  refine ⟨W6, W7, hW6, by rw [hG]; exact c6, e7.row (List.mem_cons_of_mem _ (List.mem_cons_self ..)), ?_⟩
  rw [hG]
  refine (turnOne_any G 0 _ (st_st ok.hk ok.hn (cat_lt _ _)) _ _ _ W7 r7 (by rw [putl_len, List.length_replicate]; omega)).mono ?_
  rintro e w8 ⟨he, g8, r8⟩
  refine ⟨he, ?_⟩
  have e8 := e7.set rfl neG g8 r8.row
  have rg8 : RB w8 x.g M x.T x.fr := ⟨e8.row (List.mem_cons_of_mem _ (List.mem_cons_of_mem _ (List.mem_cons_self ..))), rg6.ok, rg6.bd⟩
  have lP : (putl (List.replicate 64 0) 0 (sub M (x.o + p) (n - p))).length = 64 := by rw [putl_len, List.length_replicate]
  have c8 := run_copyB rg8 r8 (x.o + p) 0 (n - p) (cap - p) 64 64 (n - p) 3 (by simp only [Nat.min_def]; split <;> omega) (by rw [lM]; omega) (by rw [xr_len, lP]; omega)
  refine ⟨_, c8, ?_⟩
  have r9 := RB.puts _ (x.o + p) rg8 (sub_bd r8.bd 0 (n - p))
  have b9 : But (fun k => k = x.g) w8 (w8.setCells x.g (x.o + p) (cellsB (sub (xr (putl (List.replicate 64 0) 0 (sub M (x.o + p) (n - p))) 0 64 (bt (blk (Str.st x.key (cat x.c p) x.nonce)))) 0 (n - p)))) := but_setCells _ _ _ _
  have e8' := e8.sub (by' := (x.g, .cells (VN .u8 M) x.T x.fr) :: x.bx) (fun q hq => List.mem_cons_of_mem _ (List.mem_cons_of_mem _ hq))
  have e9 := e8'.set rfl ok.hg (Grow.of_but b9) r9.row
  rw [← hM, step0 _ _ _ _ _ _ _ hp (by omega) (by omega), show p + (n - p) = n by omega] at e9
  rw [← hM]
  exact e9
set_option maxRecDepth 100000 in
set_option maxHeartbeats 4000000 in
theorem xor_any (x : XN) (n cap : Nat) (ok : x.ok n) (hn : n ≤ 131072) (hcap : n ≤ cap) (w0 : World) (h : Ev x.B x.w x.rv x.l ((x.g, .cells (VN .u8 x.L) x.T x.fr) :: x.bx) w0) :
    Calls Try.prog 17 #[x.rv, .agg (VN .u8 x.key), .int .u32 (x.c : Int), .agg (VN .u8 x.nonce), .slice (some ⟨x.g, x.o, none⟩) n cap] w0 fun e w' => e = .returned (.tuple #[]) ∧ Ev x.B x.w x.rv (x.l ++ xlog n) ((x.g, .cells (VN .u8 (xr x.L x.o n (ks x.key x.c x.nonce))) x.T x.fr) :: x.bx) w' := by
  obtain ⟨q, hq⟩ : ∃ q, w0.heap.size = q := ⟨_, rfl⟩
  obtain ⟨W0, hW0⟩ : ∃ W, (w0.alloc (.cells (VN .u8 x.key) 23)).alloc (.cells (VN .u8 x.nonce) 26) = W := ⟨_, rfl⟩
  have HW0 : Hid (RK W0 q x.key 23 ∧ RK W0 (q + 1) x.nonce 26 ∧ Ev x.B x.w x.rv x.l ((x.g, .cells (VN .u8 x.L) x.T x.fr) :: x.bx) W0) := by
    show RK W0 q x.key _ ∧ _ ∧ _
    rw [← hW0, ← hq]
    refine ⟨?_, ?_, (h.below ((Below.refl _ _).alloc (Nat.le_refl _) _)).below ((Below.refl _ _).alloc (Nat.le_refl _) _)⟩
    all_goals simp only [RK, heap_alloc_any, size_alloc]
    · rw [if_neg (by omega), if_pos trivial]
    · rw [if_pos trivial]
  have OK : Hid (x.ok n) := ok
  have HIK : Hid ((Try.prog.info? 23).map (·.size) = some (VN .u8 x.key).size) := infoK ok.hk.len
  have HIN : Hid ((Try.prog.info? 26).map (·.size) = some (VN .u8 x.nonce).size) := infoNn ok.hn.len
  have HBG : Hid (∀ w, Calls Try.prog 28 #[.agg (VN .u8 x.key), .int .u32 (x.c : Int), .agg (VN .u8 x.nonce)] w fun e w' => e = .returned (.agg (VN .u32 (Str.st x.key x.c x.nonce))) ∧ Below w.heap.size w w') := fun w => begin_any x.key x.nonce x.c ok.hk ok.hn ok.hc w
  have HIS : Hid (∀ a, (Try.prog.info? 68).map (·.size) = some (VN .u32 (Str.st x.key a x.nonce)).size) := fun a => infoWs (by simp [Str.st])
  have hgl : x.g < w0.heap.size := heap_lt (h.row (List.mem_cons_self ..))
  have hxl : ∀ p ∈ x.bx, p.1 < w0.heap.size := fun p hp => heap_lt (h.at' p (List.mem_cons_of_mem _ hp))
  have HGL : Hid (x.g < q ∧ ∀ p ∈ x.bx, p.1 < q) := by rw [hq] at hgl hxl; exact ⟨hgl, hxl⟩
  have hcl := ok.hc
  clear h ok hgl hxl
  go_enter Try.func17, Try.ntmps17
  go_wp2_with (first | (go_at_call 28; refine (HBG.out W0).mono ?_; rintro e w1 ⟨rfl, hb1⟩) | (with_reducible refine at_list ?_; first | (refine wpList_load_row rfl 23 (.tmp 6) rfl q rfl 23 (VN .u8 x.key) (0, 0) _ HW0.out.1 Try.underlying23 rfl HIK.out ?_) | (refine wpList_load_row rfl 26 (.tmp 8) rfl (q + 1) rfl 26 (VN .u8 x.nonce) (0, 0) _ HW0.out.2.1 Try.underlying26 rfl HIN.out ?_) | (refine hold_store 68 (.tmp 10) (.tmp 19) rfl ?_)))
  refine store_row_new rfl 68 (.tmp 10) (.tmp 19) rfl w1.heap.size (VN .u32 (Str.st x.key x.c x.nonce)) rfl rfl rfl 68 (VN .u32 (List.replicate 16 0)) (HIS.out _) (by rw [VN_size, VN_size, List.length_replicate]; simp [Str.st]) (VN_one _ _) ?_
  obtain ⟨m, hm⟩ : ∃ m, w1.heap.size = m := ⟨_, rfl⟩
  obtain ⟨W, hW⟩ : ∃ W, w1.alloc (.cells (VN .u32 (Str.st x.key x.c x.nonce)) 68) = W := ⟨_, rfl⟩
  rw [hW, hm]
  have HST : Hid (x.st m 0 0 (log4 0) W) := by
    show x.st m 0 0 (log4 0) W
    unfold XN.st
    rw [cat0 _ hcl, xr_zero, show x.l ++ log4 0 = x.l from List.append_nil _]
    have h1 := (HW0.out.2.2.below hb1).new (.cells (VN .u32 (Str.st x.key x.c x.nonce)) 68)
    rw [hW, hm] at h1
    have hqm : q ≤ m := by rw [← hm, ← hq]; exact Nat.le_trans (by rw [← hW0]; simp [size_alloc]; omega) hb1.size
    obtain ⟨g1, g2⟩ := HGL.out
    exact ⟨h1, by omega, fun p hp => by have := g2 p hp; omega⟩
  clear hb1 HBG HIK HIN HW0 hW0 hW HGL
  go_wp2
  go_loopw [11] (fun v w' => ∃ k : Nat, 256 * k ≤ n ∧ v = .int .i64 ((256 * k : Nat) : Int) ∧ x.st m (256 * k) (256 * k) (log4 k) w') (fun v _ => n - (intOf v).toNat)
  case atStart => exact ⟨0, by omega, rfl, HST.out⟩
  case round =>
    clear HST
    obtain ⟨k, hk, rfl, hp⟩ := hrel
    obtain ⟨a, ha⟩ : ∃ a, 256 * k = a := ⟨_, rfl⟩
    rw [ha] at hk hp ⊢
    have HAK : Hid (256 * k = a) := ha
    have HLG : Hid ((log4 k).length ≤ 399990) := by
      have : (log4 k).length ≤ 399990 := by rw [log4_len]; omega
      exact this
    have HP : Hid (x.st m a a (log4 k) wr) := hp
    clear hp ha
    have HA64 : Hid (a % 64 = 0) := by have := HAK.out; show a % 64 = 0; omega
    by_cases hlt : a + 256 ≤ n
    · have b0 : (256 : Int) ≤ (n : Int) - (a : Int) := by omega
      have hsl := fun w => run_tail w x.g x.o n cap a (a : Int) rfl hk hcap (by omega)
      have hat := fun w => run_arr w 115 256 Try.underlying115 (some ⟨x.g, x.o + a, none⟩) (n - a) (cap - a) (by omega)
      have pc : IntKind.u32.wrap (((cat x.c a : Nat) : Int) + 4) = ((cat x.c (a + 256) : Nat) : Int) := by
        have := wrap32 (cat x.c a) 4
        rw [cat4 _ _ HA64.out] at this
        exact this
      have cl := cat_lt x.c a
      go_wp2_with (first | (go_at_call 30; refine (XN.st.ifs OK.out HP.out (by have := HLG.out; omega) true).mono ?_; rintro e w2 ⟨rfl, h2⟩; have H2 : Hid (x.st m a a (log4 k ++ [(1, 1)]) w2) := h2; clear h2) | (go_at_call 31; refine (XN.st.ats OK.out H2.out (Nat.le_trans (lg1 HLG.out) (by decide)) (a : Int)).mono ?_; rintro e w3 ⟨rfl, h3⟩; have H3 : Hid (x.st m a a (log4 k ++ [(1, 1)] ++ [(2, (a : Int))]) w3) := h3; clear h3) | (go_at_call 26; refine (XN.st.ops OK.out H3.out (Nat.le_trans (lg1 (lg1 HLG.out)) (by decide)) 21).mono ?_; rintro e w4 ⟨rfl, h4⟩; have H4 : Hid (x.st m a a (log4 k ++ [(1, 1)] ++ [(2, (a : Int))] ++ [(3, 21)]) w4) := h4; clear h4) | (go_at_call 32; refine (XN.st.four OK.out H4.out HA64.out (by omega)).mono ?_; rintro e w5 ⟨rfl, h5⟩; have c5 := h5.row.cell (i := 12) (by simp [Str.st]); have f5 := h5.row.froz 12; rw [st_at12] at c5; have h6 := h5.count (a + 256); have H6 : Hid (x.st m (a + 256) (a + 256) (log4 k ++ [(1, 1)] ++ [(2, (a : Int))] ++ [(3, 21)]) (w5.setCell ⟨m, 12, none⟩ (.int .u32 ((cat x.c (a + 256) : Nat) : Int)))) := h6; clear h5 h6; generalize cat x.c (a + 256) = ca' at *; generalize cat x.c a = ca at *) | (with_reducible refine at_list ?_; refine wpList_load_row rfl 68 (.tmp 10) rfl m rfl 68 (VN .u32 (Str.st x.key (cat x.c a) x.nonce)) (0, 0) _ H4.out.row Try.underlying68 rfl (HIS.out _) ?_))
      go_roundw
      case rel =>
        refine ⟨k + 1, by have := HAK.out; omega, congrArg (Value.int .i64) (by have := HAK.out; omega), ?_⟩
        have h := H6.out
        have e := HAK.out
        rw [show 256 * (k + 1) = a + 256 by omega, show log4 (k + 1) = log4 k ++ [(1, 1), (2, ((256 * k : Nat) : Int)), (3, 21)] from rfl, e]
        simpa only [List.append_assoc, List.cons_append, List.nil_append] using h
      case measure => have := hlt; simp only [intOf]; omega
    · have b0 : ¬ (256 : Int) ≤ (n : Int) - (a : Int) := by omega
      go_wp2_with (first | (go_at_call 30; refine (XN.st.ifs OK.out HP.out (by have := HLG.out; omega) false).mono ?_; rintro e w2 ⟨rfl, h2⟩; have H2 : Hid (x.st m a a (log4 k ++ [(1, 0)]) w2) := h2; clear h2))
      obtain ⟨A, hA⟩ : ∃ A, a = A := ⟨_, rfl⟩
      have HKA : Hid (256 * k = A ∧ A + 256 > n) := by have := HAK.out; exact ⟨by omega, by omega⟩
      have HL2 : Hid ((log4 k ++ [(1, 0)]).length ≤ 380000) := by
        have : (log4 k ++ [(1, 0)]).length ≤ 380000 := by have := HAK.out; simp only [List.length_append, List.length_cons, List.length_nil, log4_len]; omega
        exact this
      have HQ : Hid (x.st m (A + 64 * 0) (A + 64 * 0) (log4 k ++ [(1, 0)] ++ log1 A 0) w2) := by
        have h := H2.out
        rw [hA] at h
        show x.st m A A (log4 k ++ [(1, 0)] ++ []) w2
        rw [List.append_nil]; exact h
      have hAn : A ≤ n := by omega
      have hA2 : n < A + 256 := by omega
      have HA640 : Hid (A % 64 = 0) := by have := HA64.out; show A % 64 = 0; omega
      clear H2 HP HLG HAK HA64 b0 hlt
      rw [hA]
      clear hA hk
      generalize hLG : log4 k ++ [(1, 0)] = LQ at *
      have HLGE : Hid (log4 k ++ [(1, 0)] = LQ) := hLG
      clear hLG
      go_loopw [11] (fun v w' => ∃ k2 : Nat, A + 64 * k2 ≤ n ∧ v = .int .i64 ((A + 64 * k2 : Nat) : Int) ∧ x.st m (A + 64 * k2) (A + 64 * k2) (LQ ++ log1 A k2) w') (fun v _ => n - (intOf v).toNat)
      case atStart => exact ⟨0, by omega, rfl, HQ.out⟩
      case round =>
        clear HQ
        obtain ⟨k2, hk, rfl, hp⟩ := hrel
        obtain ⟨a, ha⟩ : ∃ a, A + 64 * k2 = a := ⟨_, rfl⟩
        rw [ha] at hk hp ⊢
        have HAK : Hid (A + 64 * k2 = a) := ha
        have HLG : Hid ((LQ ++ log1 A k2).length ≤ 399990) := by
          have : (LQ ++ log1 A k2).length ≤ 399990 := by have := HL2.out; rw [List.length_append, log1_len]; omega
          exact this
        have HP : Hid (x.st m a a (LQ ++ log1 A k2) wr) := hp
        have HA64 : Hid (a % 64 = 0) := by have := HA640.out; show a % 64 = 0; omega
        clear hp ha
        by_cases hlt : a + 64 ≤ n
        · have b0 : (64 : Int) ≤ (n : Int) - (a : Int) := by omega
          have hsl := fun w => run_tail w x.g x.o n cap a (a : Int) rfl hk hcap (by omega)
          have hat := fun w => run_arr w 29 64 Try.underlying29 (some ⟨x.g, x.o + a, none⟩) (n - a) (cap - a) (by omega)
          have pc : IntKind.u32.wrap (((cat x.c a : Nat) : Int) + 1) = ((cat x.c (a + 64) : Nat) : Int) := by
            have := wrap32 (cat x.c a) 1
            rw [cat1 _ _ HA64.out] at this
            exact this
          have cl := cat_lt x.c a
          go_wp2_with (first | (go_at_call 30; refine (XN.st.ifs OK.out HP.out (by have := HLG.out; omega) true).mono ?_; rintro e w2 ⟨rfl, h2⟩; have H2 : Hid (x.st m a a (LQ ++ log1 A k2 ++ [(1, 1)]) w2) := h2; clear h2) | (go_at_call 31; refine (XN.st.ats OK.out H2.out (Nat.le_trans (lg1 HLG.out) (by decide)) (a : Int)).mono ?_; rintro e w3 ⟨rfl, h3⟩; have H3 : Hid (x.st m a a (LQ ++ log1 A k2 ++ [(1, 1)] ++ [(2, (a : Int))]) w3) := h3; clear h3) | (go_at_call 26; refine (XN.st.ops OK.out H3.out (Nat.le_trans (lg1 (lg1 HLG.out)) (by decide)) 22).mono ?_; rintro e w4 ⟨rfl, h4⟩; have H4 : Hid (x.st m a a (LQ ++ log1 A k2 ++ [(1, 1)] ++ [(2, (a : Int))] ++ [(3, 22)]) w4) := h4; clear h4) | (go_at_call 27; refine (XN.st.one OK.out H4.out HA64.out (by omega)).mono ?_; rintro e w5 ⟨rfl, h5⟩; have c5 := h5.row.cell (i := 12) (by simp [Str.st]); have f5 := h5.row.froz 12; rw [st_at12] at c5; have h6 := h5.count (a + 64); have H6 : Hid (x.st m (a + 64) (a + 64) (LQ ++ log1 A k2 ++ [(1, 1)] ++ [(2, (a : Int))] ++ [(3, 22)]) (w5.setCell ⟨m, 12, none⟩ (.int .u32 ((cat x.c (a + 64) : Nat) : Int)))) := h6; clear h5 h6; generalize cat x.c (a + 64) = ca' at *; generalize cat x.c a = ca at *) | (with_reducible refine at_list ?_; refine wpList_load_row rfl 68 (.tmp 10) rfl m rfl 68 (VN .u32 (Str.st x.key (cat x.c a) x.nonce)) (0, 0) _ H4.out.row Try.underlying68 rfl (HIS.out _) ?_))
          go_roundw
          case rel =>
            refine ⟨k2 + 1, by have := HAK.out; omega, congrArg (Value.int .i64) (by have := HAK.out; omega), ?_⟩
            have h := H6.out
            have e := HAK.out
            rw [show A + 64 * (k2 + 1) = a + 64 by omega, show log1 A (k2 + 1) = log1 A k2 ++ [(1, 1), (2, ((A + 64 * k2 : Nat) : Int)), (3, 22)] from rfl, e]
            simpa only [List.append_assoc, List.cons_append, List.nil_append] using h
          case measure => have := hlt; simp only [intOf]; omega
        · have b0 : ¬ (64 : Int) ≤ (n : Int) - (a : Int) := by omega
          have hkn : n / 256 = k ∧ n % 256 / 64 = k2 ∧ 256 * (n / 256) = A ∧ 64 * (n / 64) = a ∧ (0 < n % 64 ↔ a < n) := by have e1 := HKA.out; have e2 := HAK.out; omega
          have HLX : Hid (∀ t, (if 0 < n % 64 then [((1 : Int), (1 : Int)), (2, ((64 * (n / 64) : Nat) : Int)), (3, 22)] else [(1, 0)]) = t → xlog n = LQ ++ log1 A k2 ++ [(1, 0)] ++ t) := fun t ht => by
            unfold xlog
            rw [ht, hkn.1, hkn.2.1, show 256 * k = A from HKA.out.1, HLGE.out]
          have HTA : Hid (64 * (n / 64) = a ∧ (0 < n % 64 ↔ a < n)) := ⟨hkn.2.2.2.1, hkn.2.2.2.2⟩
          clear hkn HKA HAK HL2 HA640 HLGE
          go_upto_if 50 with (first | (go_at_call 30; refine (XN.st.ifs OK.out HP.out (by have := HLG.out; omega) false).mono ?_; rintro e w2 ⟨rfl, h2⟩; have H2 : Hid (x.st m a a (LQ ++ log1 A k2 ++ [(1, 0)]) w2) := h2; clear h2))
          by_cases hlt2 : a < n
          · have b1 : (0 : Int) < (n : Int) - (a : Int) := by omega
            have HE : Hid (xlog n = LQ ++ log1 A k2 ++ [(1, 0)] ++ [(1, 1), (2, (a : Int)), (3, 22)]) := HLX.out _ (by rw [if_pos (HTA.out.2.2 hlt2), HTA.out.1])
            have hsl := fun w => run_tail w x.g x.o n cap a (a : Int) rfl hk hcap (by omega)
            clear HLX HTA HP b0
            go_wp2_with (first | (go_at_call 30; refine (XN.st.ifs OK.out H2.out (Nat.le_trans (lg1 HLG.out) (by decide)) true).mono ?_; rintro e w5 ⟨rfl, h5⟩; have H5 : Hid (x.st m a a (LQ ++ log1 A k2 ++ [(1, 0)] ++ [(1, 1)]) w5) := h5; clear h5) | (go_at_call 31; refine (XN.st.ats OK.out H5.out (Nat.le_trans (lg1 (lg1 HLG.out)) (by decide)) (a : Int)).mono ?_; rintro e w6 ⟨rfl, h6⟩; have H6 : Hid (x.st m a a (LQ ++ log1 A k2 ++ [(1, 0)] ++ [(1, 1)] ++ [(2, (a : Int))]) w6) := h6; clear h6) | (go_at_call 26; refine (XN.st.ops OK.out H6.out (Nat.le_trans (lg1 (lg1 (lg1 HLG.out))) (by decide)) 22).mono ?_; rintro e w7 ⟨rfl, h7⟩; obtain ⟨V6, V7, hV6, hcp, hrw, hto⟩ := XN.st.tail (cap := cap) OK.out h7 HA64.out hlt2 (by omega); have HRW : Hid _ := hrw; have HTO : Hid _ := hto; have hal := run_all V6 29 64 w7.heap.size (by decide) Try.underlying29; clear h7 hrw hto) | (with_reducible refine at_list ?_; refine wpList_load_row rfl 68 (.tmp 10) rfl m rfl 68 (VN .u32 (Str.st x.key (cat x.c a) x.nonce)) (0, 0) _ HRW.out Try.underlying68 rfl (HIS.out _) ?_) | (go_at_call 27; refine Calls.mono HTO.out ?_; rintro e w8 ⟨rfl, V9, hcp9, h9⟩; have H9 : Hid _ := h9; have hal9 := run_all w8 29 64 w7.heap.size (by decide) Try.underlying29; clear h9))
            go_end0
            refine ⟨rfl, ?_⟩
            rw [HE.out]
            simpa only [List.append_assoc, List.cons_append, List.nil_append] using H9.out
          · have b1 : ¬ (0 : Int) < (n : Int) - (a : Int) := by omega
            have HE : Hid (xlog n = LQ ++ log1 A k2 ++ [(1, 0)] ++ [(1, 0)] ∧ a = n) := ⟨HLX.out _ (by rw [if_neg (fun h => hlt2 (HTA.out.2.1 h))]), by omega⟩
            clear HLX HTA HP b0
            go_wp2_with (first | (go_at_call 30; refine (XN.st.ifs OK.out H2.out (Nat.le_trans (lg1 HLG.out) (by decide)) false).mono ?_; rintro e w5 ⟨rfl, h5⟩; have H5 : Hid (x.st m a a (LQ ++ log1 A k2 ++ [(1, 0)] ++ [(1, 0)]) w5) := h5; clear h5))
            go_end0
            obtain ⟨e1, e2⟩ := HE.out
            have h := H5.out
            rw [e2] at h
            rw [e1]
            exact ⟨rfl, h.1.sub (fun p hp => List.mem_cons_of_mem _ hp)⟩
end Go.Proofs.Ytefnlaookmpbhaa
