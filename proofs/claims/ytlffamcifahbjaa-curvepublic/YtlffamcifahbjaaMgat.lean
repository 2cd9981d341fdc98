import Derived.Test.YtlffamcifahbjaaMgas
namespace Go.Proofs.Ytlffamcifahbjaa
set_option linter.unusedSimpArgs false
set_option linter.unusedVariables false
open Go.ChangeShapes Go.WideShapes Go.ChangeAt Go.RowKit Go.Pin Go.Fld
/-- a step of the ladder, in numbers -/
def clm (x a b c d : Nat) : Nat × Nat × Nat × Nat :=
  let p := (a + b) % P
  let pp := p * p % P
  let q := (a + (P - b)) % P
  let qq := q * q % P
  let e := (pp + (P - qq)) % P
  let m := (c + d) % P
  let n := (c + (P - d)) % P
  let v := n * p % P
  let y := m * q % P
  let s := (v + y) % P
  let t := (v + (P - y)) % P
  (pp * qq % P, e * ((pp + e * 121665 % P) % P) % P, s * s % P, x * (t * t % P) % P)
def clog : List (Int × Int) := [(3, 1), (3, 4), (3, 2), (3, 4), (3, 2), (3, 1), (3, 2), (3, 3), (3, 3), (3, 1), (3, 4), (3, 2), (3, 4), (3, 3), (3, 3), (3, 5), (3, 1), (3, 3)]
set_option maxRecDepth 100000 in
set_option maxHeartbeats 8000000 in
theorem climb_f {x a b c d : List Int} (hx : Lim x) (ha : Lim a) (hb : Lim b) (hc : Lim c) (hd : Lim d) : ∃ a' b' c' d', Lim a' ∧ Lim b' ∧ Lim c' ∧ Lim d' ∧ clm (num x) (num a) (num b) (num c) (num d) = (num a', num b', num c', num d') ∧
    Hid (∀ B w rv l T bx wr, Ev B w rv l ((T, ro a b c d) :: bx) wr → (∀ p ∈ bx, p.1 ≠ T) → l.length ≤ 800000 → Calls Try.prog 24 #[.pointer (some ⟨T, 0, none⟩), rv, .agg (VI .u64 x)] wr fun e w' => e = .returned (.tuple #[]) ∧ Ev B w rv (l ++ clog) ((T, ro a' b' c' d') :: bx) w') := by
  obtain ⟨p, hp, np, Cp⟩ := o_add ha hb
  obtain ⟨pp, hpp, npp, Cpp⟩ := o_square hp
  obtain ⟨q, hq, nq, Cq⟩ := o_sub ha hb
  obtain ⟨qq, hqq, nqq, Cqq⟩ := o_square hq
  obtain ⟨e, he, ne, Ce⟩ := o_sub hpp hqq
  obtain ⟨m, hm, nm, Cm⟩ := o_add hc hd
  obtain ⟨n, hn, nn, Cn⟩ := o_sub hc hd
  obtain ⟨v, hv, nv, Cv⟩ := o_mul hn hp
  obtain ⟨y, hy, ny, Cy⟩ := o_mul hm hq
  obtain ⟨s, hs, ns, Cs⟩ := o_add hv hy
  obtain ⟨c', hc', nc', Cc'⟩ := o_square hs
  obtain ⟨t, ht, nt, Ct⟩ := o_sub hv hy
  obtain ⟨u, hu, nu, Cu⟩ := o_square ht
  obtain ⟨d', hd', nd', Cd'⟩ := o_mul hx hu
  obtain ⟨a', ha', na', Ca'⟩ := o_mul hpp hqq
  obtain ⟨f, hf, nf, Cf⟩ := o_scale he
  obtain ⟨h, hh, nh, Ch⟩ := o_add hpp hf
  obtain ⟨b', hb', nb', Cb'⟩ := o_mul he hh
  refine ⟨a', b', c', d', ha', hb', hc', hd', ?_, ?_⟩
  · simp only [clm, nb', nh, nf, na', nd', nu, nt, nc', ns, ny, nv, nn, nm, ne, nqq, nq, npp, np]
  intro B w rv l T bx wr HE HT HL
  have lx : Hid (x.length = 5) := hx.len
  have la : Hid (a.length = 5) := ha.len
  have lb : Hid (b.length = 5) := hb.len
  have lc : Hid (c.length = 5) := hc.len
  have ld : Hid (d.length = 5) := hd.len
  have lp : Hid (p.length = 5) := hp.len
  have lpp : Hid (pp.length = 5) := hpp.len
  have lq : Hid (q.length = 5) := hq.len
  have lqq : Hid (qq.length = 5) := hqq.len
  have le : Hid (e.length = 5) := he.len
  have lm : Hid (m.length = 5) := hm.len
  have ln : Hid (n.length = 5) := hn.len
  have lv : Hid (v.length = 5) := hv.len
  have ly : Hid (y.length = 5) := hy.len
  have ls : Hid (s.length = 5) := hs.len
  have lc' : Hid (c'.length = 5) := hc'.len
  have lt : Hid (t.length = 5) := ht.len
  have lu : Hid (u.length = 5) := hu.len
  have ld' : Hid (d'.length = 5) := hd'.len
  have la' : Hid (a'.length = 5) := ha'.len
  have lf : Hid (f.length = 5) := hf.len
  have lh : Hid (h.length = 5) := hh.len
  have lb' : Hid (b'.length = 5) := hb'.len
  clear np npp nq nqq ne nm nn nv ny ns nc' nt nu nd' na' nf nh nb' hx ha hb hc hd hp hpp hq hqq he hm hn hv hy hs hc' ht hu hd' ha' hf hh hb'
  have HL' : Hid (l.length ≤ 800000) := HL
  clear HL
  go_enter Try.func24, Try.ntmps24
  have NT : Hid (∀ p ∈ bx, p.1 ≠ T) := HT
  clear HT
  go_wp2_with fail
  have hn : wr.heap.size ≠ T := Nat.ne_of_gt (HE.lt (g := T) (x := ro a b c d) (by simp))
  have hN := HE.new (bxE x)
  obtain ⟨W1, hW⟩ : ∃ W, wr.alloc (bxE x) = W := ⟨_, rfl⟩
  rw [hW] at hN
  rw [show wr.alloc (.cells (VI .u64 x) 51) = W1 from hW]
  clear hW
  obtain ⟨gx, hg⟩ : ∃ g, wr.heap.size = g := ⟨_, rfl⟩
  rw [hg] at hN hn
  try simp only [hg]
  clear hg HE
  have NT' : Hid (∀ z ∈ (gx, bxE x) :: bx, z.1 ≠ T) := fun z hp => by rcases List.mem_cons.1 hp with rfl | hp; exact hn; exact NT.out z hp
  clear NT
  have NT := NT'
  clear NT'
  clear hn
  have X1 : Hid (Ev B w rv (l) ((T, ro a b c d) :: (gx, bxE x) :: bx) W1) := hN.sub (by intro p hp; simp only [List.mem_cons] at hp ⊢; rcases hp with h | h | h <;> simp [h])
  clear hN
  refine wp_as (c' := rgC1) (by kernel_rfl) ?_
  refine climb_r1 la lb lc ld lp Cp (show Hid (List.length (l) ≤ 1000000) from show List.length (l) ≤ 1000000 from (by have := HL'.out; (try simp only [List.length_append, List.length_cons, List.length_nil]); omega)) X1.out (fun _ _ d _ _ h => by cases d <;> exact h) ?_
  intro gp W2 hN hn
  have NT' : Hid (∀ z ∈ (gp, bxE p) :: (gx, bxE x) :: bx, z.1 ≠ T) := fun z hp => by rcases List.mem_cons.1 hp with rfl | hp; exact hn; exact NT.out z hp
  clear NT
  have NT := NT'
  clear NT'
  have X2 : Hid (Ev B w rv (l ++ [(3, 1)]) ((T, ro a b c d) :: (gp, bxE p) :: (gx, bxE x) :: bx) W2) := hN.sub (by intro p hp; simp only [List.mem_cons] at hp ⊢; rcases hp with h | h | h <;> simp [h])
  clear hN hn X1
  go_wp2_with (with_reducible refine at_list ?_; first | (refine wpList_load_row rfl 51 (.tmp 6) rfl gp rfl 51 (VI .u64 p) (0, 0) _ (X2.out.row (g := gp) (x := bxE p) (by simp)) Try.underlying51 rfl (infoE5' lp.out) ?_))
  refine (Cpp.out _ _ _ _ _ _ X2.out (by have := HL'.out; (try simp only [List.length_append, List.length_cons, List.length_nil]); omega)).mono ?_
  rintro e W3 ⟨rfl, hN⟩
  have X3 : Hid (Ev B w rv (l ++ [(3, 1)] ++ [(3, 4)]) ((T, ro a b c d) :: (gp, bxE p) :: (gx, bxE x) :: bx) W3) := hN
  clear hN X2
  go_wp2_with (with_reducible refine at_list ?_; refine hold_store 51 (.tmp 7) (.tmp 27) rfl ?_)
  refine store_row_new rfl 51 (.tmp 7) (.tmp 27) rfl W3.heap.size (VI .u64 pp) rfl rfl rfl 51 (VI .u64 [0, 0, 0, 0, 0]) (infoE5' lpp.out) (by rw [VI_size, VI_size, lpp.out]; rfl) (VI_one _ _) ?_
  have hn : W3.heap.size ≠ T := Nat.ne_of_gt (X3.out.lt (g := T) (x := ro a b c d) (by simp))
  have hN := X3.out.new (bxE pp)
  obtain ⟨W4, hW⟩ : ∃ W, W3.alloc (bxE pp) = W := ⟨_, rfl⟩
  rw [hW] at hN ⊢
  clear hW
  obtain ⟨gpp, hg⟩ : ∃ g, W3.heap.size = g := ⟨_, rfl⟩
  rw [hg] at hN hn
  try simp only [hg]
  clear hg
  have NT' : Hid (∀ z ∈ (gpp, bxE pp) :: (gp, bxE p) :: (gx, bxE x) :: bx, z.1 ≠ T) := fun z hp => by rcases List.mem_cons.1 hp with rfl | hp; exact hn; exact NT.out z hp
  clear NT
  have NT := NT'
  clear NT'
  have X4 : Hid (Ev B w rv (l ++ [(3, 1)] ++ [(3, 4)]) ((T, ro a b c d) :: (gpp, bxE pp) :: (gp, bxE p) :: (gx, bxE x) :: bx) W4) := hN.sub (by intro p hp; simp only [List.mem_cons] at hp ⊢; rcases hp with h | h | h <;> simp [h])
  clear hN hn X3
  go_wp2_with fail
  refine wp_as (c' := rgC3) (by kernel_rfl) ?_
  refine climb_r3 la lb lc ld lq Cq (show Hid (List.length (l ++ [(3, 1)] ++ [(3, 4)]) ≤ 1000000) from show List.length (l ++ [(3, 1)] ++ [(3, 4)]) ≤ 1000000 from (by have := HL'.out; (try simp only [List.length_append, List.length_cons, List.length_nil]); omega)) X4.out (fun _ _ d _ _ h => by cases d <;> exact h) ?_
  intro gq W5 hN hn
  have NT' : Hid (∀ z ∈ (gq, bxE q) :: (gpp, bxE pp) :: (gp, bxE p) :: (gx, bxE x) :: bx, z.1 ≠ T) := fun z hp => by rcases List.mem_cons.1 hp with rfl | hp; exact hn; exact NT.out z hp
  clear NT
  have NT := NT'
  clear NT'
  have X5 : Hid (Ev B w rv (l ++ [(3, 1)] ++ [(3, 4)] ++ [(3, 2)]) ((T, ro a b c d) :: (gq, bxE q) :: (gpp, bxE pp) :: (gp, bxE p) :: (gx, bxE x) :: bx) W5) := hN.sub (by intro p hp; simp only [List.mem_cons] at hp ⊢; rcases hp with h | h | h <;> simp [h])
  clear hN hn X4
  go_wp2_with (with_reducible refine at_list ?_; first | (refine wpList_load_row rfl 51 (.tmp 8) rfl gq rfl 51 (VI .u64 q) (0, 0) _ (X5.out.row (g := gq) (x := bxE q) (by simp)) Try.underlying51 rfl (infoE5' lq.out) ?_))
  refine (Cqq.out _ _ _ _ _ _ X5.out (by have := HL'.out; (try simp only [List.length_append, List.length_cons, List.length_nil]); omega)).mono ?_
  rintro e W6 ⟨rfl, hN⟩
  have X6 : Hid (Ev B w rv (l ++ [(3, 1)] ++ [(3, 4)] ++ [(3, 2)] ++ [(3, 4)]) ((T, ro a b c d) :: (gq, bxE q) :: (gpp, bxE pp) :: (gp, bxE p) :: (gx, bxE x) :: bx) W6) := hN
  clear hN X5
  go_wp2_with (with_reducible refine at_list ?_; refine hold_store 51 (.tmp 9) (.tmp 40) rfl ?_)
  refine store_row_new rfl 51 (.tmp 9) (.tmp 40) rfl W6.heap.size (VI .u64 qq) rfl rfl rfl 51 (VI .u64 [0, 0, 0, 0, 0]) (infoE5' lqq.out) (by rw [VI_size, VI_size, lqq.out]; rfl) (VI_one _ _) ?_
  have hn : W6.heap.size ≠ T := Nat.ne_of_gt (X6.out.lt (g := T) (x := ro a b c d) (by simp))
  have hN := X6.out.new (bxE qq)
  obtain ⟨W7, hW⟩ : ∃ W, W6.alloc (bxE qq) = W := ⟨_, rfl⟩
  rw [hW] at hN ⊢
  clear hW
  obtain ⟨gqq, hg⟩ : ∃ g, W6.heap.size = g := ⟨_, rfl⟩
  rw [hg] at hN hn
  try simp only [hg]
  clear hg
  have NT' : Hid (∀ z ∈ (gqq, bxE qq) :: (gq, bxE q) :: (gpp, bxE pp) :: (gp, bxE p) :: (gx, bxE x) :: bx, z.1 ≠ T) := fun z hp => by rcases List.mem_cons.1 hp with rfl | hp; exact hn; exact NT.out z hp
  clear NT
  have NT := NT'
  clear NT'
  have X7 : Hid (Ev B w rv (l ++ [(3, 1)] ++ [(3, 4)] ++ [(3, 2)] ++ [(3, 4)]) ((T, ro a b c d) :: (gqq, bxE qq) :: (gq, bxE q) :: (gpp, bxE pp) :: (gp, bxE p) :: (gx, bxE x) :: bx) W7) := hN.sub (by intro p hp; simp only [List.mem_cons] at hp ⊢; rcases hp with h | h | h <;> simp [h])
  clear hN hn X6
  go_wp2_with (with_reducible refine at_list ?_; first | (refine wpList_load_row rfl 51 (.tmp 7) rfl gpp rfl 51 (VI .u64 pp) (0, 0) _ (X7.out.row (g := gpp) (x := bxE pp) (by simp)) Try.underlying51 rfl (infoE5' lpp.out) ?_) | (refine wpList_load_row rfl 51 (.tmp 9) rfl gqq rfl 51 (VI .u64 qq) (0, 0) _ (X7.out.row (g := gqq) (x := bxE qq) (by simp)) Try.underlying51 rfl (infoE5' lqq.out) ?_))
  refine (Ce.out _ _ _ _ _ _ X7.out (by have := HL'.out; (try simp only [List.length_append, List.length_cons, List.length_nil]); omega)).mono ?_
  rintro e W8 ⟨rfl, hN⟩
  have X8 : Hid (Ev B w rv (l ++ [(3, 1)] ++ [(3, 4)] ++ [(3, 2)] ++ [(3, 4)] ++ [(3, 2)]) ((T, ro a b c d) :: (gqq, bxE qq) :: (gq, bxE q) :: (gpp, bxE pp) :: (gp, bxE p) :: (gx, bxE x) :: bx) W8) := hN
  clear hN X7
  go_wp2_with (with_reducible refine at_list ?_; refine hold_store 51 (.tmp 10) (.tmp 44) rfl ?_)
  refine store_row_new rfl 51 (.tmp 10) (.tmp 44) rfl W8.heap.size (VI .u64 e) rfl rfl rfl 51 (VI .u64 [0, 0, 0, 0, 0]) (infoE5' le.out) (by rw [VI_size, VI_size, le.out]; rfl) (VI_one _ _) ?_
  have hn : W8.heap.size ≠ T := Nat.ne_of_gt (X8.out.lt (g := T) (x := ro a b c d) (by simp))
  have hN := X8.out.new (bxE e)
  obtain ⟨W9, hW⟩ : ∃ W, W8.alloc (bxE e) = W := ⟨_, rfl⟩
  rw [hW] at hN ⊢
  clear hW
  obtain ⟨ge, hg⟩ : ∃ g, W8.heap.size = g := ⟨_, rfl⟩
  rw [hg] at hN hn
  try simp only [hg]
  clear hg
  have NT' : Hid (∀ z ∈ (ge, bxE e) :: (gqq, bxE qq) :: (gq, bxE q) :: (gpp, bxE pp) :: (gp, bxE p) :: (gx, bxE x) :: bx, z.1 ≠ T) := fun z hp => by rcases List.mem_cons.1 hp with rfl | hp; exact hn; exact NT.out z hp
  clear NT
  have NT := NT'
  clear NT'
  have X9 : Hid (Ev B w rv (l ++ [(3, 1)] ++ [(3, 4)] ++ [(3, 2)] ++ [(3, 4)] ++ [(3, 2)]) ((T, ro a b c d) :: (ge, bxE e) :: (gqq, bxE qq) :: (gq, bxE q) :: (gpp, bxE pp) :: (gp, bxE p) :: (gx, bxE x) :: bx) W9) := hN.sub (by intro p hp; simp only [List.mem_cons] at hp ⊢; rcases hp with h | h | h <;> simp [h])
  clear hN hn X8
  go_wp2_with fail
  refine wp_as (c' := rgC6) (by kernel_rfl) ?_
  refine climb_r6 la lb lc ld lm Cm (show Hid (List.length (l ++ [(3, 1)] ++ [(3, 4)] ++ [(3, 2)] ++ [(3, 4)] ++ [(3, 2)]) ≤ 1000000) from show List.length (l ++ [(3, 1)] ++ [(3, 4)] ++ [(3, 2)] ++ [(3, 4)] ++ [(3, 2)]) ≤ 1000000 from (by have := HL'.out; (try simp only [List.length_append, List.length_cons, List.length_nil]); omega)) X9.out (fun _ _ d _ _ h => by cases d <;> exact h) ?_
  intro gm W10 hN hn
  have NT' : Hid (∀ z ∈ (gm, bxE m) :: (ge, bxE e) :: (gqq, bxE qq) :: (gq, bxE q) :: (gpp, bxE pp) :: (gp, bxE p) :: (gx, bxE x) :: bx, z.1 ≠ T) := fun z hp => by rcases List.mem_cons.1 hp with rfl | hp; exact hn; exact NT.out z hp
  clear NT
  have NT := NT'
  clear NT'
  have X10 : Hid (Ev B w rv (l ++ [(3, 1)] ++ [(3, 4)] ++ [(3, 2)] ++ [(3, 4)] ++ [(3, 2)] ++ [(3, 1)]) ((T, ro a b c d) :: (gm, bxE m) :: (ge, bxE e) :: (gqq, bxE qq) :: (gq, bxE q) :: (gpp, bxE pp) :: (gp, bxE p) :: (gx, bxE x) :: bx) W10) := hN.sub (by intro p hp; simp only [List.mem_cons] at hp ⊢; rcases hp with h | h | h <;> simp [h])
  clear hN hn X9
  go_wp2_with fail
  refine wp_as (c' := rgC7) (by kernel_rfl) ?_
  refine climb_r7 la lb lc ld ln Cn (show Hid (List.length (l ++ [(3, 1)] ++ [(3, 4)] ++ [(3, 2)] ++ [(3, 4)] ++ [(3, 2)] ++ [(3, 1)]) ≤ 1000000) from show List.length (l ++ [(3, 1)] ++ [(3, 4)] ++ [(3, 2)] ++ [(3, 4)] ++ [(3, 2)] ++ [(3, 1)]) ≤ 1000000 from (by have := HL'.out; (try simp only [List.length_append, List.length_cons, List.length_nil]); omega)) X10.out (fun _ _ d _ _ h => by cases d <;> exact h) ?_
  intro gn W11 hN hn
  have NT' : Hid (∀ z ∈ (gn, bxE n) :: (gm, bxE m) :: (ge, bxE e) :: (gqq, bxE qq) :: (gq, bxE q) :: (gpp, bxE pp) :: (gp, bxE p) :: (gx, bxE x) :: bx, z.1 ≠ T) := fun z hp => by rcases List.mem_cons.1 hp with rfl | hp; exact hn; exact NT.out z hp
  clear NT
  have NT := NT'
  clear NT'
  have X11 : Hid (Ev B w rv (l ++ [(3, 1)] ++ [(3, 4)] ++ [(3, 2)] ++ [(3, 4)] ++ [(3, 2)] ++ [(3, 1)] ++ [(3, 2)]) ((T, ro a b c d) :: (gn, bxE n) :: (gm, bxE m) :: (ge, bxE e) :: (gqq, bxE qq) :: (gq, bxE q) :: (gpp, bxE pp) :: (gp, bxE p) :: (gx, bxE x) :: bx) W11) := hN.sub (by intro p hp; simp only [List.mem_cons] at hp ⊢; rcases hp with h | h | h <;> simp [h])
  clear hN hn X10
  go_wp2_with (with_reducible refine at_list ?_; first | (refine wpList_load_row rfl 51 (.tmp 12) rfl gn rfl 51 (VI .u64 n) (0, 0) _ (X11.out.row (g := gn) (x := bxE n) (by simp)) Try.underlying51 rfl (infoE5' ln.out) ?_) | (refine wpList_load_row rfl 51 (.tmp 6) rfl gp rfl 51 (VI .u64 p) (0, 0) _ (X11.out.row (g := gp) (x := bxE p) (by simp)) Try.underlying51 rfl (infoE5' lp.out) ?_))
  refine (Cv.out _ _ _ _ _ _ X11.out (by have := HL'.out; (try simp only [List.length_append, List.length_cons, List.length_nil]); omega)).mono ?_
  rintro e W12 ⟨rfl, hN⟩
  have X12 : Hid (Ev B w rv (l ++ [(3, 1)] ++ [(3, 4)] ++ [(3, 2)] ++ [(3, 4)] ++ [(3, 2)] ++ [(3, 1)] ++ [(3, 2)] ++ [(3, 3)]) ((T, ro a b c d) :: (gn, bxE n) :: (gm, bxE m) :: (ge, bxE e) :: (gqq, bxE qq) :: (gq, bxE q) :: (gpp, bxE pp) :: (gp, bxE p) :: (gx, bxE x) :: bx) W12) := hN
  clear hN X11
  go_wp2_with (with_reducible refine at_list ?_; refine hold_store 51 (.tmp 13) (.tmp 68) rfl ?_)
  refine store_row_new rfl 51 (.tmp 13) (.tmp 68) rfl W12.heap.size (VI .u64 v) rfl rfl rfl 51 (VI .u64 [0, 0, 0, 0, 0]) (infoE5' lv.out) (by rw [VI_size, VI_size, lv.out]; rfl) (VI_one _ _) ?_
  have hn : W12.heap.size ≠ T := Nat.ne_of_gt (X12.out.lt (g := T) (x := ro a b c d) (by simp))
  have hN := X12.out.new (bxE v)
  obtain ⟨W13, hW⟩ : ∃ W, W12.alloc (bxE v) = W := ⟨_, rfl⟩
  rw [hW] at hN ⊢
  clear hW
  obtain ⟨gv, hg⟩ : ∃ g, W12.heap.size = g := ⟨_, rfl⟩
  rw [hg] at hN hn
  try simp only [hg]
  clear hg
  have NT' : Hid (∀ z ∈ (gv, bxE v) :: (gn, bxE n) :: (gm, bxE m) :: (ge, bxE e) :: (gqq, bxE qq) :: (gq, bxE q) :: (gpp, bxE pp) :: (gp, bxE p) :: (gx, bxE x) :: bx, z.1 ≠ T) := fun z hp => by rcases List.mem_cons.1 hp with rfl | hp; exact hn; exact NT.out z hp
  clear NT
  have NT := NT'
  clear NT'
  have X13 : Hid (Ev B w rv (l ++ [(3, 1)] ++ [(3, 4)] ++ [(3, 2)] ++ [(3, 4)] ++ [(3, 2)] ++ [(3, 1)] ++ [(3, 2)] ++ [(3, 3)]) ((T, ro a b c d) :: (gv, bxE v) :: (gn, bxE n) :: (gm, bxE m) :: (ge, bxE e) :: (gqq, bxE qq) :: (gq, bxE q) :: (gpp, bxE pp) :: (gp, bxE p) :: (gx, bxE x) :: bx) W13) := hN.sub (by intro p hp; simp only [List.mem_cons] at hp ⊢; rcases hp with h | h | h <;> simp [h])
  clear hN hn X12
  go_wp2_with (with_reducible refine at_list ?_; first | (refine wpList_load_row rfl 51 (.tmp 11) rfl gm rfl 51 (VI .u64 m) (0, 0) _ (X13.out.row (g := gm) (x := bxE m) (by simp)) Try.underlying51 rfl (infoE5' lm.out) ?_) | (refine wpList_load_row rfl 51 (.tmp 8) rfl gq rfl 51 (VI .u64 q) (0, 0) _ (X13.out.row (g := gq) (x := bxE q) (by simp)) Try.underlying51 rfl (infoE5' lq.out) ?_))
  refine (Cy.out _ _ _ _ _ _ X13.out (by have := HL'.out; (try simp only [List.length_append, List.length_cons, List.length_nil]); omega)).mono ?_
  rintro e W14 ⟨rfl, hN⟩
  have X14 : Hid (Ev B w rv (l ++ [(3, 1)] ++ [(3, 4)] ++ [(3, 2)] ++ [(3, 4)] ++ [(3, 2)] ++ [(3, 1)] ++ [(3, 2)] ++ [(3, 3)] ++ [(3, 3)]) ((T, ro a b c d) :: (gv, bxE v) :: (gn, bxE n) :: (gm, bxE m) :: (ge, bxE e) :: (gqq, bxE qq) :: (gq, bxE q) :: (gpp, bxE pp) :: (gp, bxE p) :: (gx, bxE x) :: bx) W14) := hN
  clear hN X13
  go_wp2_with (with_reducible refine at_list ?_; refine hold_store 51 (.tmp 14) (.tmp 72) rfl ?_)
  refine store_row_new rfl 51 (.tmp 14) (.tmp 72) rfl W14.heap.size (VI .u64 y) rfl rfl rfl 51 (VI .u64 [0, 0, 0, 0, 0]) (infoE5' ly.out) (by rw [VI_size, VI_size, ly.out]; rfl) (VI_one _ _) ?_
  have hn : W14.heap.size ≠ T := Nat.ne_of_gt (X14.out.lt (g := T) (x := ro a b c d) (by simp))
  have hN := X14.out.new (bxE y)
  obtain ⟨W15, hW⟩ : ∃ W, W14.alloc (bxE y) = W := ⟨_, rfl⟩
  rw [hW] at hN ⊢
  clear hW
  obtain ⟨gw, hg⟩ : ∃ g, W14.heap.size = g := ⟨_, rfl⟩
  rw [hg] at hN hn
  try simp only [hg]
  clear hg
  have NT' : Hid (∀ z ∈ (gw, bxE y) :: (gv, bxE v) :: (gn, bxE n) :: (gm, bxE m) :: (ge, bxE e) :: (gqq, bxE qq) :: (gq, bxE q) :: (gpp, bxE pp) :: (gp, bxE p) :: (gx, bxE x) :: bx, z.1 ≠ T) := fun z hp => by rcases List.mem_cons.1 hp with rfl | hp; exact hn; exact NT.out z hp
  clear NT
  have NT := NT'
  clear NT'
  have X15 : Hid (Ev B w rv (l ++ [(3, 1)] ++ [(3, 4)] ++ [(3, 2)] ++ [(3, 4)] ++ [(3, 2)] ++ [(3, 1)] ++ [(3, 2)] ++ [(3, 3)] ++ [(3, 3)]) ((T, ro a b c d) :: (gw, bxE y) :: (gv, bxE v) :: (gn, bxE n) :: (gm, bxE m) :: (ge, bxE e) :: (gqq, bxE qq) :: (gq, bxE q) :: (gpp, bxE pp) :: (gp, bxE p) :: (gx, bxE x) :: bx) W15) := hN.sub (by intro p hp; simp only [List.mem_cons] at hp ⊢; rcases hp with h | h | h <;> simp [h])
  clear hN hn X14
  go_wp2_with (with_reducible refine at_list ?_; first | (refine wpList_load_row rfl 51 (.tmp 13) rfl gv rfl 51 (VI .u64 v) (0, 0) _ (X15.out.row (g := gv) (x := bxE v) (by simp)) Try.underlying51 rfl (infoE5' lv.out) ?_) | (refine wpList_load_row rfl 51 (.tmp 14) rfl gw rfl 51 (VI .u64 y) (0, 0) _ (X15.out.row (g := gw) (x := bxE y) (by simp)) Try.underlying51 rfl (infoE5' ly.out) ?_))
  refine (Cs.out _ _ _ _ _ _ X15.out (by have := HL'.out; (try simp only [List.length_append, List.length_cons, List.length_nil]); omega)).mono ?_
  rintro e W16 ⟨rfl, hN⟩
  have X16 : Hid (Ev B w rv (l ++ [(3, 1)] ++ [(3, 4)] ++ [(3, 2)] ++ [(3, 4)] ++ [(3, 2)] ++ [(3, 1)] ++ [(3, 2)] ++ [(3, 3)] ++ [(3, 3)] ++ [(3, 1)]) ((T, ro a b c d) :: (gw, bxE y) :: (gv, bxE v) :: (gn, bxE n) :: (gm, bxE m) :: (ge, bxE e) :: (gqq, bxE qq) :: (gq, bxE q) :: (gpp, bxE pp) :: (gp, bxE p) :: (gx, bxE x) :: bx) W16) := hN
  clear hN X15
  go_wp2_with fail
  refine (Cc'.out _ _ _ _ _ _ X16.out (by have := HL'.out; (try simp only [List.length_append, List.length_cons, List.length_nil]); omega)).mono ?_
  rintro e W17 ⟨rfl, hN⟩
  have X17 : Hid (Ev B w rv (l ++ [(3, 1)] ++ [(3, 4)] ++ [(3, 2)] ++ [(3, 4)] ++ [(3, 2)] ++ [(3, 1)] ++ [(3, 2)] ++ [(3, 3)] ++ [(3, 3)] ++ [(3, 1)] ++ [(3, 4)]) ((T, ro a b c d) :: (gw, bxE y) :: (gv, bxE v) :: (gn, bxE n) :: (gm, bxE m) :: (ge, bxE e) :: (gqq, bxE qq) :: (gq, bxE q) :: (gpp, bxE pp) :: (gp, bxE p) :: (gx, bxE x) :: bx) W17) := hN
  clear hN X16
  go_wp2_with (with_reducible refine at_list ?_; refine hold_store 51 (.tmp 81) (.tmp 79) rfl ?_)
  have ht := ro_th la.out lb.out lc.out ld.out (X17.out.row (g := T) (x := ro a b c d) (by simp)) 10 (by decide)
  refine wpList_store_mid rfl 51 (.tmp 81) (.tmp 79) rfl T 10 (VI .u64 c') rfl rfl (by rw [VI_size, lc'.out]; exact ht) (infoE5' lc'.out) (VI_one _ _) ?_
  have hN := X17.out.set rfl NT.out (but_setCells T (c'.map (Value.int .u64)) 10 W17) (ro_s10 la.out lb.out lc.out ld.out (X17.out.row (g := T) (x := ro a b c d) (by simp)) lc'.out)
  obtain ⟨W18, hW⟩ : ∃ W, W17.setCells T 10 (c'.map (Value.int .u64)) = W := ⟨_, rfl⟩
  rw [hW] at hN
  rw [show W17.setCells T 10 (VI .u64 c').toList = W18 from hW]
  clear hW ht
  have X18 : Hid (Ev B w rv (l ++ [(3, 1)] ++ [(3, 4)] ++ [(3, 2)] ++ [(3, 4)] ++ [(3, 2)] ++ [(3, 1)] ++ [(3, 2)] ++ [(3, 3)] ++ [(3, 3)] ++ [(3, 1)] ++ [(3, 4)]) ((T, ro a b c' d) :: (gw, bxE y) :: (gv, bxE v) :: (gn, bxE n) :: (gm, bxE m) :: (ge, bxE e) :: (gqq, bxE qq) :: (gq, bxE q) :: (gpp, bxE pp) :: (gp, bxE p) :: (gx, bxE x) :: bx) W18) := hN
  clear hN X17
  go_wp2_with fail
  refine wp_as (c' := rgC11) (by kernel_rfl) ?_
  refine climb_r11 la lb lc' ld lv lx ly lt lu ld' Ct Cu Cd' (show Hid (List.length (l ++ [(3, 1)] ++ [(3, 4)] ++ [(3, 2)] ++ [(3, 4)] ++ [(3, 2)] ++ [(3, 1)] ++ [(3, 2)] ++ [(3, 3)] ++ [(3, 3)] ++ [(3, 1)] ++ [(3, 4)]) ≤ 900000) from show List.length (l ++ [(3, 1)] ++ [(3, 4)] ++ [(3, 2)] ++ [(3, 4)] ++ [(3, 2)] ++ [(3, 1)] ++ [(3, 2)] ++ [(3, 3)] ++ [(3, 3)] ++ [(3, 1)] ++ [(3, 4)]) ≤ 900000 from (by have := HL'.out; (try simp only [List.length_append, List.length_cons, List.length_nil]); omega)) (by simp) (by simp) (by simp) NT.out X18.out (fun _ _ d _ _ h => by cases d <;> exact h) ?_
  intro W19 hN
  have X19 : Hid (Ev B w rv (l ++ [(3, 1)] ++ [(3, 4)] ++ [(3, 2)] ++ [(3, 4)] ++ [(3, 2)] ++ [(3, 1)] ++ [(3, 2)] ++ [(3, 3)] ++ [(3, 3)] ++ [(3, 1)] ++ [(3, 4)] ++ [(3, 2)] ++ [(3, 4)] ++ [(3, 3)]) ((T, ro a b c' d') :: (gw, bxE y) :: (gv, bxE v) :: (gn, bxE n) :: (gm, bxE m) :: (ge, bxE e) :: (gqq, bxE qq) :: (gq, bxE q) :: (gpp, bxE pp) :: (gp, bxE p) :: (gx, bxE x) :: bx) W19) := hN
  clear hN X18
  go_wp2_with (with_reducible refine at_list ?_; first | (refine wpList_load_row rfl 51 (.tmp 7) rfl gpp rfl 51 (VI .u64 pp) (0, 0) _ (X19.out.row (g := gpp) (x := bxE pp) (by simp)) Try.underlying51 rfl (infoE5' lpp.out) ?_) | (refine wpList_load_row rfl 51 (.tmp 9) rfl gqq rfl 51 (VI .u64 qq) (0, 0) _ (X19.out.row (g := gqq) (x := bxE qq) (by simp)) Try.underlying51 rfl (infoE5' lqq.out) ?_))
  refine (Ca'.out _ _ _ _ _ _ X19.out (by have := HL'.out; (try simp only [List.length_append, List.length_cons, List.length_nil]); omega)).mono ?_
  rintro e W20 ⟨rfl, hN⟩
  have X20 : Hid (Ev B w rv (l ++ [(3, 1)] ++ [(3, 4)] ++ [(3, 2)] ++ [(3, 4)] ++ [(3, 2)] ++ [(3, 1)] ++ [(3, 2)] ++ [(3, 3)] ++ [(3, 3)] ++ [(3, 1)] ++ [(3, 4)] ++ [(3, 2)] ++ [(3, 4)] ++ [(3, 3)] ++ [(3, 3)]) ((T, ro a b c' d') :: (gw, bxE y) :: (gv, bxE v) :: (gn, bxE n) :: (gm, bxE m) :: (ge, bxE e) :: (gqq, bxE qq) :: (gq, bxE q) :: (gpp, bxE pp) :: (gp, bxE p) :: (gx, bxE x) :: bx) W20) := hN
  clear hN X19
  go_wp2_with (with_reducible refine at_list ?_; refine hold_store 51 (.tmp 100) (.tmp 98) rfl ?_)
  have ht := ro_th la.out lb.out lc'.out ld'.out (X20.out.row (g := T) (x := ro a b c' d') (by simp)) 0 (by decide)
  refine wpList_store_mid rfl 51 (.tmp 100) (.tmp 98) rfl T 0 (VI .u64 a') rfl rfl (by rw [VI_size, la'.out]; exact ht) (infoE5' la'.out) (VI_one _ _) ?_
  have hN := X20.out.set rfl NT.out (but_setCells T (a'.map (Value.int .u64)) 0 W20) (ro_s0 la.out lb.out lc'.out ld'.out (X20.out.row (g := T) (x := ro a b c' d') (by simp)) la'.out)
  obtain ⟨W21, hW⟩ : ∃ W, W20.setCells T 0 (a'.map (Value.int .u64)) = W := ⟨_, rfl⟩
  rw [hW] at hN
  rw [show W20.setCells T 0 (VI .u64 a').toList = W21 from hW]
  clear hW ht
  have X21 : Hid (Ev B w rv (l ++ [(3, 1)] ++ [(3, 4)] ++ [(3, 2)] ++ [(3, 4)] ++ [(3, 2)] ++ [(3, 1)] ++ [(3, 2)] ++ [(3, 3)] ++ [(3, 3)] ++ [(3, 1)] ++ [(3, 4)] ++ [(3, 2)] ++ [(3, 4)] ++ [(3, 3)] ++ [(3, 3)]) ((T, ro a' b c' d') :: (gw, bxE y) :: (gv, bxE v) :: (gn, bxE n) :: (gm, bxE m) :: (ge, bxE e) :: (gqq, bxE qq) :: (gq, bxE q) :: (gpp, bxE pp) :: (gp, bxE p) :: (gx, bxE x) :: bx) W21) := hN
  clear hN X20
  go_wp2_with fail
  refine wp_as (c' := rgC13) (by kernel_rfl) ?_
  refine climb_r13 la' lb lc' ld' le lpp lf lh lb' Cf Ch Cb' (show Hid (List.length (l ++ [(3, 1)] ++ [(3, 4)] ++ [(3, 2)] ++ [(3, 4)] ++ [(3, 2)] ++ [(3, 1)] ++ [(3, 2)] ++ [(3, 3)] ++ [(3, 3)] ++ [(3, 1)] ++ [(3, 4)] ++ [(3, 2)] ++ [(3, 4)] ++ [(3, 3)] ++ [(3, 3)]) ≤ 900000) from show List.length (l ++ [(3, 1)] ++ [(3, 4)] ++ [(3, 2)] ++ [(3, 4)] ++ [(3, 2)] ++ [(3, 1)] ++ [(3, 2)] ++ [(3, 3)] ++ [(3, 3)] ++ [(3, 1)] ++ [(3, 4)] ++ [(3, 2)] ++ [(3, 4)] ++ [(3, 3)] ++ [(3, 3)]) ≤ 900000 from (by have := HL'.out; (try simp only [List.length_append, List.length_cons, List.length_nil]); omega)) (by simp) (by simp) NT.out X21.out (fun _ _ d _ _ h => by cases d <;> exact h) ?_
  intro W22 hN
  have X22 : Hid (Ev B w rv (l ++ [(3, 1)] ++ [(3, 4)] ++ [(3, 2)] ++ [(3, 4)] ++ [(3, 2)] ++ [(3, 1)] ++ [(3, 2)] ++ [(3, 3)] ++ [(3, 3)] ++ [(3, 1)] ++ [(3, 4)] ++ [(3, 2)] ++ [(3, 4)] ++ [(3, 3)] ++ [(3, 3)] ++ [(3, 5)] ++ [(3, 1)] ++ [(3, 3)]) ((T, ro a' b' c' d') :: (gw, bxE y) :: (gv, bxE v) :: (gn, bxE n) :: (gm, bxE m) :: (ge, bxE e) :: (gqq, bxE qq) :: (gq, bxE q) :: (gpp, bxE pp) :: (gp, bxE p) :: (gx, bxE x) :: bx) W22) := hN
  clear hN X21
  go_wp2_with fail
  go_end0
  refine ⟨rfl, ?_⟩
  have hN := X22.out.sub (by' := (T, ro a' b' c' d') :: bx) (by intro p hp; simp only [List.mem_cons] at hp ⊢; rcases hp with h | h <;> simp [h])
  simp only [List.append_assoc, List.cons_append, List.nil_append] at hN
  exact hN
end Go.Proofs.Ytlffamcifahbjaa
