import Derived.Test.YtfobiejgkdbidabTraceRecC
namespace Go.Proofs.Ytfobiejgkdbidab
set_option linter.unusedSimpArgs false
open Go.ChangeShapes Go.WideShapes Go.ChangeAt Go.RowKit Go.Pin
/-- what a slice of one's own read, it reads behind an append to it: the row has room, and takes more behind; or it is left -/
theorem append_old {P : Program} (w : World) (base : Nat) (t ty e : TypeId) (i : TypeInfo) (z : Value) (size bytes : Nat) (ht : P.underlying t = some (.slice e)) (hi : P.info? e = some i) (hz : i.zero = some z)
    (hsize : i.size = size) (hby : i.bytes = bytes) (v : Value) (n : Nat) (xs : List Value) (hown : w.ownsRow base e size v n xs)
    (a : Addr) (m c : Nat) (news : List Value) (hl : news.length = m * size) (hnews : ∀ j u, news[j]? = some u → w.cell? (a.add j) = some u) (h1 : ∀ u ∈ news, u.oneCell' = true)
    (h63 : n + m ≤ maxLen) (hbytes : (n + m) * bytes ≤ 140737488355328) (v' : Value) (w' : World) (hr : (Builtin.append_ #[t, t] ty #[v, .slice (some a) m c]).run P w = .ok v' w') (ho' : w'.ownsRow base e size v' (n + m) (xs ++ news)) :
    Sl w' v size xs n := by
  subst hsize
  subst hby
  refine ⟨hown.1, ?_⟩
  rcases hown.2 with ⟨rfl, rfl⟩ | ⟨g, cap, cur, rfl, hbg, hg, hnc, hcm, hcs, htake⟩
  · exact ⟨none, 0, rfl, Nat.le_refl _, .inl rfl⟩
  · refine ⟨_, cap, rfl, hnc, .inr ⟨g, 0, rfl, fun j x hx => ?_⟩⟩
    by_cases hroom : n + m ≤ cap
    · have hfit : n * i.size + news.length ≤ cur.size := by rw [hl, hcs, ← Nat.add_mul]; exact Nat.mul_le_mul_right _ hroom
      rw [run_append_room (P := P) w t ty e i ht hi g n cap cur hg a m c news hl hnews h1 hroom hfit] at hr
      cases hr
      have := ho'.cells (g := g) rfl j x (by rw [List.getElem?_append_left (List.getElem?_eq_some_iff.1 hx).1]; exact hx)
      rwa [add_mid] at this
    · have hc := hown.cells (g := g) rfl
      rw [run_append_grow (P := P) w t ty e i z ht hi hz ⟨g, 0, none⟩ n cap xs hown.1 hc a m c news hl hnews (by omega) (by simp only [maxLen] at h63; omega) (growslice_fits (by omega) hbytes)] at hr
      cases hr
      have h2 := hc j x hx
      rw [add_mid] at h2
      rw [World.cell?_of_block (w := w) (a := ⟨g, 0 + j, none⟩)]
      · exact h2
      · show (World.alloc _ _).heap[g]? = _
        rw [heap_alloc_any, if_neg (by have := (Array.getElem?_eq_some_iff.1 hg).1; show g ≠ w.heap.size; omega)]
        rfl
/-- append to a slice of one's own: where the new one lies, and that the old one reads as it read -/
theorem append_own_x {P : Program} (w : World) {ops : Array Oper} {rest : List Oper} {o : Oper} {a : Act} {Q : Exit → Act → World → Prop} (hgd : o.guard = none) (s x : Operand) (t : TypeId)
    (ho : o.op = .call { callee := .builtin .append, args := #[s, x], argTypes := #[t, t] }) (base : Nat) (e : TypeId) (i : TypeInfo) (z : Value) (size bytes : Nat) (ht : P.underlying t = some (.slice e)) (hi : P.info? e = some i) (hz : i.zero = some z)
    (hsize : i.size = size) (hby : i.bytes = bytes) (hzs : z.cells.size = size) (hsz : 0 < size) (v : Value) (n : Nat) (xs : List Value) (hs : a.eval s = v) (hown : w.ownsRow base e size v n xs)
    (ad : Addr) (m c : Nat) (news : List Value) (hx : a.eval x = .slice (some ad) m c) (hl : news.length = m * size) (hnews : ∀ j u, news[j]? = some u → w.cell? (ad.add j) = some u) (h1 : ∀ u ∈ news, u.oneCell' = true)
    (h63 : n + m ≤ maxLen) (hbytes : (n + m) * bytes ≤ 140737488355328) (hbase : base ≤ w.heap.size)
    (h : ∀ v' w', w'.ownsRow base e size v' (n + m) (xs ++ news) → w.grownBy w' v.ownBlock → Sl w' v size xs n → (v'.ownBlock = v.ownBlock ∨ v'.ownBlock = some w.heap.size) → wpList P ops Q rest (a.put o.dst v') w') : wpList P ops Q (o :: rest) a w := by
  obtain ⟨v', w', hr, h2, h3, _, h5⟩ := run_append_own_at (P := P) w base t o.type e i z size bytes ht hi hz hsize hby hzs hsz v n xs hown ad m c news hl hnews h1 h63 hbytes hbase
  have h4 := append_old w base t o.type e i z size bytes ht hi hz hsize hby v n xs hown ad m c news hl hnews h1 h63 hbytes v' w' hr h2
  refine wpList_plain hgd fun K hK => ?_
  have h6 := hK _ _ (h v' w' h2 h3 h4 h5)
  unfold Oper.wp execOp
  simp only [ho, hs, hx, hr, resolve, invoke, builtin, List.map_toArray, List.map_cons, List.map_nil, Sem.run_bind, Sem.run_pure, Result.andThen_ok]
  exact h6
set_option maxRecDepth 100000 in
set_option maxHeartbeats 1000000 in
theorem rlogx_any (B R : Nat) (vs : Value) (l : List (Int × Int)) (k v : Int) (w : World) (h : Rec B w R vs l) (hl : l.length ≤ 1000000) :
    Calls Try.prog 27 #[.pointer (some ⟨R, 0, none⟩), .int .i64 k, .int .i64 v] w fun e w' => e = .returned (.tuple #[]) ∧ ∃ vs', Rec B w' R vs' (l ++ [(k, v)]) ∧ Grow (Blk R vs) w w' ∧ Sl w' vs 2 (evC l) l.length ∧ (vs'.ownBlock = vs.ownBlock ∨ ∃ g, vs'.ownBlock = some g ∧ w.heap.size ≤ g) := by
  obtain ⟨i0, hi, hz0, hz1, hz2⟩ := info_parts info37
  have HI : Hid _ := And.intro hi (And.intro hz0 (And.intro hz1 hz2))
  have HR : Hid (Rec B w R vs l) := h
  have hc0 := h.cell0
  have hf0 := h.froz 0
  clear hi hz0 hz1 hz2 h
  go_enter Try.func27, Try.ntmps27
  go_wp2_with (first | (at_builtin; refine append_own_x _ rfl _ _ 26 rfl B 36 i0 (.agg #[.int .i64 0, .int .i64 0]) 2 16 Try.underlying26 HI.out.1 HI.out.2.1 HI.out.2.2.1 HI.out.2.2.2 rfl (by decide) _ l.length (evC l) rfl (HR.out.2.2.alloc _) ⟨w.heap.size, 0, none⟩ 1 1 [.int .i64 k, .int .i64 v] rfl rfl ?_ ?_ ?_ ?_ ?_ ?_))
  · intro j u hj
    match j, hj with
    | 0, hj => simp at hj; subst hj; simp [Addr.add]
    | 1, hj => simp at hj; subst hj; simp [Addr.add]
  · intro u hu
    simp at hu
    rcases hu with rfl | rfl <;> rfl
  · unfold maxLen; omega
  · omega
  · have := HR.out.lt R (.inl rfl)
    have := HR.out.1
    simp; omega
  · intro v' w1 hown' hgrow hnn hat
    have hRB : ∀ k, vs.ownBlock = some k → k ≠ R := by
      rintro k hk rfl
      rcases HR.out.2.2.2 with ⟨rfl, _⟩ | ⟨g, cap, cur, rfl, _, hg, _⟩
      · cases hk
      · cases hk
        have := HR.out.2.1.symm.trans hg
        simp at this
    have GR : ∀ x y : Value, Grow (fun k => k = R) w1 ((w1.setCell ⟨R, 0, none⟩ x).setCell ⟨R, 1, none⟩ y) := fun x y => ⟨rfl, rfl, rfl, by simp [World.setCell], fun k _ hk => by rw [heap_setCell_other _ _ _ _ (by exact hk), heap_setCell_other _ _ _ _ (by exact hk)]⟩
    have SS : ∀ x y : Value, Sl ((w1.setCell ⟨R, 0, none⟩ x).setCell ⟨R, 1, none⟩ y) vs 2 (evC l) l.length := fun x y => sl_grow (GR x y) hnn (fun k hk => hRB k hk)
    have HSS : Hid _ := SS
    clear SS hRB GR
    obtain ⟨g', cap', rfl⟩ : ∃ g cap, v' = .slice (some ⟨g, 0, none⟩) (l.length + 1) cap := by
      rcases hown'.2 with ⟨_, h0⟩ | ⟨g, cap, _, rfl, _⟩
      · omega
      · exact ⟨g, cap, rfl⟩
    have hlt := HR.out.lt R (.inl rfl)
    have hne : some R ≠ vs.ownBlock := by
      intro e
      rcases HR.out.2.2.2 with ⟨rfl, _⟩ | ⟨g, cap, cur, rfl, _, hg, _⟩
      · simp [Value.ownBlock] at e
      · obtain rfl : R = g := by simpa [Value.ownBlock] using e
        have := HR.out.2.1.symm.trans hg
        simp at this
    have hw1 : w1.heap[R]? = some (.cells #[vs, .int .i64 (l.length : Int)] 57 (0, 0)) := by
      rw [hgrow.block R (by simp; omega) hne, heap_alloc_any, if_neg (by omega)]
      exact HR.out.2.1
    have hne' : g' ≠ R := by
      rintro rfl
      rcases hown'.2 with ⟨h0, _⟩ | ⟨g, cap, cur, he, _, hg, _⟩
      · cases h0
      · cases he
        rw [hw1] at hg
        simp at hg
    have c0 : w1.cell? ⟨R, 0, none⟩ = some vs := by simp [World.cell?, hw1]
    have f0 : w1.frozen? ⟨R, 0, none⟩ = false := by simp [World.frozen?, hw1]
    have hw2 := two_set0 hw1 (.slice (some ⟨g', 0, none⟩) (l.length + 1) cap')
    have c1 : (w1.setCell ⟨R, 0, none⟩ (.slice (some ⟨g', 0, none⟩) (l.length + 1) cap')).cell? ⟨R, 1, none⟩ = some (.int .i64 l.length) := by simp [World.cell?, hw2]
    have f1 : (w1.setCell ⟨R, 0, none⟩ (.slice (some ⟨g', 0, none⟩) (l.length + 1) cap')).frozen? ⟨R, 1, none⟩ = false := by simp [World.frozen?, hw2]
    have hw3 := two_set1 hw2 (.int .i64 (l.length + 1))
    have RR : Rec B ((w1.setCell ⟨R, 0, none⟩ (.slice (some ⟨g', 0, none⟩) (l.length + 1) cap')).setCell ⟨R, 1, none⟩ (.int .i64 (l.length + 1))) R (.slice (some ⟨g', 0, none⟩) (l.length + 1) cap') (l ++ [(k, v)]) := by
      refine ⟨HR.out.1, by rw [hw3, List.length_append]; rfl, ?_⟩
      rw [List.length_append, evC_app]
      refine ⟨hown'.1, ?_⟩
      rcases hown'.2 with ⟨h0, _⟩ | ⟨g, cap, cur, he, h2, hg, hr⟩
      · cases h0
      · cases he
        refine .inr ⟨g', cap', cur, rfl, h2, ?_, hr⟩
        rw [heap_setCell_other _ _ _ _ (by exact hne'), heap_setCell_other _ _ _ _ (by exact hne')]
        exact hg
    have GG : Grow (Blk R vs) w ((w1.setCell ⟨R, 0, none⟩ (.slice (some ⟨g', 0, none⟩) (l.length + 1) cap')).setCell ⟨R, 1, none⟩ (.int .i64 (l.length + 1))) := by
      refine ⟨hgrow.os, hgrow.tape, hgrow.output, ?_, ?_⟩
      · have := hgrow.size
        simp [World.setCell] at this ⊢
        omega
      · intro k hk hS
        rw [heap_setCell_other _ _ _ _ (by exact fun e => hS (.inl e)), heap_setCell_other _ _ _ _ (by exact fun e => hS (.inl e)), hgrow.block k (by simp; omega) (fun e => hS (.inr e.symm)), heap_alloc_any, if_neg (by omega)]
    have AT : (Value.slice (some ⟨g', 0, none⟩) (l.length + 1) cap').ownBlock = vs.ownBlock ∨ ∃ g, (Value.slice (some ⟨g', 0, none⟩) (l.length + 1) cap').ownBlock = some g ∧ w.heap.size ≤ g := by
      rcases hat with h | h
      · exact .inl h
      · exact .inr ⟨_, h, by simp⟩
    have HRR : Hid _ := RR
    have HGG : Hid _ := GG
    have HAT : Hid _ := AT
    have HC : Hid (∀ _ : Unit, _) := fun _ => aAdd_any R 1 l.length 1 _ c1 f1 (by omega) (by omega)
    clear hown' hgrow hnn hat RR GG AT hw1 hw2 hw3 c1 f1 hc0 hf0 HI hne hne'
    go_wp2_with (first | (go_at_call 29; refine (HC.out ()).mono ?_; rintro e w' ⟨rfl, rfl⟩))
    go_end0
    exact ⟨rfl, _, HRR.out, HGG.out, HSS.out _ _, HAT.out⟩
set_option maxRecDepth 100000 in
theorem rOpx_any (B R : Nat) (vs : Value) (l : List (Int × Int)) (v : Int) (w : World) (h : Rec B w R vs l) (hl : l.length ≤ 1000000) :
    Calls Try.prog 19 #[.pointer (some ⟨R, 0, none⟩), .int .i64 v] w fun e w' => e = .returned (.tuple #[]) ∧ ∃ vs', Rec B w' R vs' (l ++ [(3, v)]) ∧ Grow (Blk R vs) w w' ∧ Sl w' vs 2 (evC l) l.length ∧ (vs'.ownBlock = vs.ownBlock ∨ ∃ g, vs'.ownBlock = some g ∧ w.heap.size ≤ g) := by
  have HR : Hid _ := h
  have HL : Hid _ := hl
  clear h hl
  go_enter Try.func19, Try.ntmps19
  go_wp2_with (first | (go_at_call 27; refine (rlogx_any B R vs l _ _ _ HR.out HL.out).mono ?_; rintro e w' ⟨rfl, hw⟩))
  go_end0
  exact ⟨rfl, hw⟩
end Go.Proofs.Ytfobiejgkdbidab
