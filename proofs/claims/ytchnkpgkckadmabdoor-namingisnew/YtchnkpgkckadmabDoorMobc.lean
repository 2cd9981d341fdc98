import Derived.Laws.OwnMore
import Derived.Test.YtchnkpgkckadmabDoorMobb
namespace Go.Proofs.YtchnkpgkckadmabDoor
set_option linter.unusedSimpArgs false
set_option linter.unusedVariables false
set_option maxRecDepth 100000
open Go.ChangeShapes Go.WideShapes Go.ChangeAt Go.RowKit Go.Pin Go.Pat Go.Deep
/-- a pattern in memory: its lists' values, and what they hold -/
structure PE where
  nm : ByteArray
  v0 : Value
  v1 : Value
  vl : Value
  b0 : List Int
  b1 : List Int
  fs : List Lv
def pcs (p : PE) : List Value := [.string p.nm, p.v0, p.v1, p.vl]
def lsts (p : PE) : List Lv := (0, p.v0, p.b0) :: (1, p.v1, p.b1) :: p.fs
def qcs (Q : List (PE × Nat)) : List Value := Q.flatMap fun x => pcs x.1
def qls (Q : List (PE × Nat)) : List Lv := Q.flatMap fun x => lsts x.1
/-- the lines of a pattern, in the block g -/
def LnZ (g : Nat) (p : PE) (w : World) : Prop := ∃ o cur cap, p.vl = .slice (some ⟨g, o, none⟩) p.fs.length cap ∧ p.fs.length ≤ cap ∧ w.heap[g]? = some (.cells cur 36 (0, 0)) ∧
  (∀ j, j < p.fs.length → cur[o + j * 2]? = some (.int .i64 (p.fs.getD j (0, undef, [])).1) ∧ cur[o + j * 2 + 1]? = some (p.fs.getD j (0, undef, [])).2.1) ∧ cur.size = o + cap * 2
/-- patterns in a list, every list in a block of its own -/
structure SA (q : Nat) (v6 : Value) (Q : List (PE × Nat)) (w : World) : Prop where
  a6 : w.ownsRow q 29 4 v6 Q.length (qcs Q)
  nd : (v6.ownBlock.toList ++ (Q.map (·.2) ++ obs (qls Q))).Nodup
  ow : ∀ f ∈ qls Q, w.ownsRow q 3 1 f.2.1 f.2.2.length (f.2.2.map (Value.int .i64))
  ln : ∀ x ∈ Q, q ≤ x.2 ∧ LnZ x.2 x.1 w ∧ 0 < x.1.fs.length
  bd : ∀ x ∈ Q, x.1.fs.length ≤ 24 ∧ ∀ f ∈ lsts x.1, f.2.2.length ≤ 24
theorem LnZ.keep {g : Nat} {p : PE} {w w' : World} (h : LnZ g p w) (hk : w'.heap[g]? = w.heap[g]?) : LnZ g p w' := by
  obtain ⟨o, cur, cap, h1, h2, h3, h4⟩ := h
  exact ⟨o, cur, cap, h1, h2, hk.trans h3, h4⟩
theorem LnZ.lt {g : Nat} {p : PE} {w : World} (h : LnZ g p w) : g < w.heap.size := by
  obtain ⟨o, cur, cap, h1, h2, h3, h4⟩ := h
  exact (Array.getElem?_eq_some_iff.1 h3).1
theorem SA.keep {q : Nat} {v6 : Value} {Q : List (PE × Nat)} {w w' : World} (h : SA q v6 Q w) (hk : ∀ k, q ≤ k → k < w.heap.size → w'.heap[k]? = w.heap[k]?) : SA q v6 Q w' :=
  ⟨own_keep h.a6 (fun g hg => hk g (h.a6.lt g hg).1 (h.a6.lt g hg).2), h.nd, fun f hf => own_keep (h.ow f hf) (fun g hg => hk g ((h.ow f hf).lt g hg).1 ((h.ow f hf).lt g hg).2), fun x hx => ⟨(h.ln x hx).1, (h.ln x hx).2.1.keep (hk _ (h.ln x hx).1 (h.ln x hx).2.1.lt), (h.ln x hx).2.2⟩, h.bd⟩
theorem SA.below {q : Nat} {v6 : Value} {Q : List (PE × Nat)} {w w' : World} (h : SA q v6 Q w) (hb : Below w.heap.size w w') : SA q v6 Q w' := h.keep (fun k _ hk => hb.block k hk)
theorem sa_nil (q : Nat) (w : World) : SA q (.slice none 0 0) [] w := ⟨own_nil0 _ _ _ _, by simp [Value.ownBlock, qls, obs], fun f hf => by simp [qls] at hf, fun x hx => by simp at hx, fun x hx => by simp at hx⟩
theorem SA.lt {q : Nat} {v6 : Value} {Q : List (PE × Nat)} {w : World} (h : SA q v6 Q w) : ∀ k ∈ v6.ownBlock.toList ++ (Q.map (·.2) ++ obs (qls Q)), q ≤ k ∧ k < w.heap.size := fun k hk => by
  rcases List.mem_append.1 hk with hk | hk
  · exact h.a6.lt k (by simpa using hk)
  · rcases List.mem_append.1 hk with hk | hk
    · obtain ⟨x, hx, rfl⟩ := List.mem_map.1 hk
      exact ⟨(h.ln x hx).1, (h.ln x hx).2.1.lt⟩
    · obtain ⟨f, hf, hfk⟩ := List.mem_filterMap.1 hk
      exact (h.ow f hf).lt k hfk
theorem qls_snoc (Q : List (PE × Nat)) (x : PE × Nat) : qls (Q ++ [x]) = qls Q ++ lsts x.1 := by simp [qls]
theorem qcs_snoc (Q : List (PE × Nat)) (x : PE × Nat) : qcs (Q ++ [x]) = qcs Q ++ pcs x.1 := by simp [qcs]
/-- one pattern more: it lies in new memory (from base on); the list of patterns has grown -/
theorem SA.add {q base : Nat} {v6 v6' : Value} {Q : List (PE × Nat)} {w w1 w2 : World} {p : PE} (h : SA q v6 Q w) (hq : q ≤ base) (hbase : w.heap.size = base) (hb : Below w.heap.size w w1)
    (hx : EX base [] [(0, p.v0, p.b0), (1, p.v1, p.b1)] p.fs p.vl w1) (hf : 0 < p.fs.length) (hbd : p.fs.length ≤ 24 ∧ ∀ f ∈ lsts p, f.2.2.length ≤ 24)
    (ho : w2.ownsRow q 29 4 v6' (Q.length + 1) (qcs Q ++ pcs p)) (hg : w1.grownBy w2 v6.ownBlock) (hv : v6'.ownBlock = v6.ownBlock ∨ ∃ k, v6'.ownBlock = some k ∧ w1.heap.size ≤ k) :
    ∃ g, SA q v6' (Q ++ [(p, g)]) w2 := by
  obtain ⟨pre, hos, a, cap, ev, hc, hl⟩ := hx
  rcases hl with hl | ⟨g, o, cur, rfl, rfl, h3, h4, h5, h6⟩
  · rw [hl] at hf; simp at hf
  rw [List.nil_append] at hos
  have h1 := h.below hb
  have hlt := h.lt
  have hgl : g < w1.heap.size := (Array.getElem?_eq_some_iff.1 h4).1
  have hol : ∀ k ∈ obs (lsts p), base ≤ k ∧ k < w1.heap.size := hos.lt
  have hsz := hb.size
  -- blocks that stay from w1 to w2: all but v6's
  have hst : ∀ k, k < w1.heap.size → v6.ownBlock ≠ some k → w2.heap[k]? = w1.heap[k]? := fun k hk hne => hg.block k hk (fun e => hne e.symm)
  have hold : ∀ k ∈ v6.ownBlock.toList, k < base := fun k hk => by have := hlt k (List.mem_append_left _ hk); omega
  have hne6 : ∀ k, base ≤ k → v6.ownBlock ≠ some k := fun k hk e => by have := hold k (by rw [e]; simp); omega
  have hnd := h.nd
  rw [List.nodup_append] at hnd
  have hnin : ∀ k ∈ Q.map (·.2) ++ obs (qls Q), v6.ownBlock ≠ some k := fun k hk e => hnd.2.2 k (by rw [e]; simp) k hk rfl
  have hnd1 := List.nodup_append.1 hos.nd
  refine ⟨g, by rw [List.length_append, qcs_snoc]; exact ho, ?_, fun f hf' => ?_, fun x hx => ?_, fun x hx => ?_⟩
  · rw [qls_snoc, List.map_append, obs_app]
    have hm : (List.map (fun x : PE × Nat => x.2) [(p, g)]) = [g] := rfl
    rw [hm]
    have hA : ((Q.map (·.2) ++ obs (qls Q)) ++ ([g] ++ obs (lsts p))).Nodup := by
      rw [List.nodup_append]
      refine ⟨hnd.2.1, hos.nd, fun k hk m hm e => ?_⟩
      subst e
      have hk1 := (hlt k (List.mem_append_right _ hk)).2
      rcases List.mem_append.1 hm with hm | hm
      · simp at hm; omega
      · have := hol k hm; omega
    have hperm : ((Q.map (·.2) ++ [g]) ++ (obs (qls Q) ++ obs (lsts p))).Perm ((Q.map (·.2) ++ obs (qls Q)) ++ ([g] ++ obs (lsts p))) := by
      simp only [List.append_assoc]
      refine List.Perm.append_left _ ?_
      simp only [← List.append_assoc]
      exact List.Perm.append_right _ List.perm_append_comm
    rw [List.nodup_append]
    refine ⟨by cases v6'.ownBlock <;> simp, hperm.nodup_iff.2 hA, fun k hk m hm e => ?_⟩
    subst e
    have hm2 := (hperm.mem_iff).1 hm
    have hkv : v6'.ownBlock = some k := by simpa using hk
    rcases hv with hv | ⟨j, hv, hj⟩
    · rw [hv] at hkv
      rcases List.mem_append.1 hm2 with hm2 | hm2
      · exact hnin k hm2 hkv
      · have hkb := hold k (by rw [hkv]; simp)
        rcases List.mem_append.1 hm2 with hm2 | hm2
        · simp at hm2; omega
        · have := hol k hm2; omega
    · rw [hv] at hkv
      injection hkv with hkv
      subst hkv
      rcases List.mem_append.1 hm2 with hm2 | hm2
      · have := (hlt j (List.mem_append_right _ hm2)).2; omega
      · rcases List.mem_append.1 hm2 with hm2 | hm2
        · simp at hm2; omega
        · have := hol j hm2; omega
  · rw [qls_snoc] at hf'
    rcases List.mem_append.1 hf' with hf' | hf'
    · exact own_keep (h1.ow f hf') (fun k hk => hst k ((h1.ow f hf').lt k hk).2 (hnin k (List.mem_append_right _ (obs_mem hf' hk))))
    · have hof := hos.own f hf'
      exact own_mn (own_keep hof (fun k hk => hst k (hof.lt k hk).2 (hne6 k (hof.lt k hk).1))) hq
  · rcases List.mem_append.1 hx with hx | hx
    · have hl1 := h1.ln x hx
      exact ⟨hl1.1, hl1.2.1.keep (hst _ hl1.2.1.lt (hnin _ (List.mem_append_left _ (List.mem_map.2 ⟨x, hx, rfl⟩)))), hl1.2.2⟩
    · simp at hx
      subst hx
      exact ⟨by show q ≤ g; omega, ⟨o, cur, cap, ev, hc, (hst g hgl (hne6 g h3)).trans h4, h5, h6⟩, hf⟩
  · rcases List.mem_append.1 hx with hx | hx
    · exact h.bd x hx
    · simp at hx
      subst hx
      exact hbd
theorem qcs_at : ∀ (Q : List (PE × Nat)) {i c : Nat} {x : PE × Nat}, Q[i]? = some x → c < 4 → (qcs Q)[i * 4 + c]? = (pcs x.1)[c]?
  | [], i, c, x, h, _ => by simp at h
  | y :: Q, 0, c, x, h, hc => by
    simp at h
    subst h
    have : qcs (y :: Q) = pcs y.1 ++ qcs Q := by simp [qcs]
    rw [this, List.getElem?_append_left (by simp [pcs]; omega)]
    simp
  | y :: Q, i + 1, c, x, h, hc => by
    have : qcs (y :: Q) = pcs y.1 ++ qcs Q := by simp [qcs]
    have hl : (pcs y.1).length = 4 := rfl
    rw [this, List.getElem?_append_right (by rw [hl]; omega), hl, show (i + 1) * 4 + c - 4 = i * 4 + c by omega]
    exact qcs_at Q (by simpa using h) hc
/-- the cells of the i-th pattern -/
theorem SA.pat {q : Nat} {a6 : Option Addr} {n k6 : Nat} {Q : List (PE × Nat)} {w : World} (h : SA q (.slice a6 n k6) Q w) {i : Nat} {x : PE × Nat} (hx : Q[i]? = some x) :
    ∃ g6, a6 = some ⟨g6, 0, none⟩ ∧ w.cell? ⟨g6, i * 4, none⟩ = some (.string x.1.nm) ∧ w.cell? ⟨g6, i * 4 + 1, none⟩ = some x.1.v0 ∧ w.cell? ⟨g6, i * 4 + 2, none⟩ = some x.1.v1 ∧ w.cell? ⟨g6, i * 4 + 3, none⟩ = some x.1.vl := by
  have ho := (own_cell h.a6).2
  obtain ⟨g, e, _, h0⟩ := ho (i * 4 + 0) _ ((qcs_at Q hx (by decide)).trans rfl)
  obtain ⟨g', e', _, h1⟩ := ho (i * 4 + 1) _ ((qcs_at Q hx (by decide)).trans rfl)
  obtain ⟨g'', e'', _, h2⟩ := ho (i * 4 + 2) _ ((qcs_at Q hx (by decide)).trans rfl)
  obtain ⟨g3, e3, _, h3⟩ := ho (i * 4 + 3) _ ((qcs_at Q hx (by decide)).trans rfl)
  rw [e] at e' e'' e3
  injection e' with e'
  injection e' with e'
  injection e'' with e''
  injection e'' with e''
  injection e3 with e3
  injection e3 with e3
  subst e' e'' e3
  exact ⟨g, e, h0, h1, h2, h3⟩
/-- append of k elements of one cell -/
theorem own_appK {t e : TypeId} {z : Value} {by_ : Nat} (hU : Tryd.prog.underlying t = some (.slice e)) (hI : (Tryd.prog.info? e).map (fun i => (i.zero, i.size, i.bytes)) = some (some z, 1, by_)) (hz : z.cells.size = 1)
    {w : World} {b : Nat} {v : Value} {n : Nat} {xs : List Value} (hown : w.ownsRow b e 1 v n xs) {a : Nat} {news : List Value} {m : Nat} {t' : TypeId} {fr : Nat × Nat} (hc : w.heap[a]? = some (.cells news.toArray t' fr)) (hl : news.length = m) (h1 : ∀ u ∈ news, u.oneCell' = true) (hn : (n + m) * by_ ≤ 140737488355328) (hn2 : n + m ≤ 140737488355328) (hb : b ≤ w.heap.size) :
    ∀ ty, ∃ v' w', (Builtin.append_ #[t, t] ty #[v, .slice (some ⟨a, 0, none⟩) m m]).run Tryd.prog w = .ok v' w' ∧ (w'.ownsRow b e 1 v' (n + m) (xs ++ news) ∧ w.grownBy w' v.ownBlock ∧ (v'.ownBlock = v.ownBlock ∨ v'.ownBlock = some w.heap.size)) := fun ty => by
  obtain ⟨i, i1, hz'⟩ := Option.map_eq_some_iff.1 hI
  simp only [Prod.mk.injEq] at hz'
  obtain ⟨i2, i3, i4⟩ := hz'
  obtain ⟨v', w', hr, h2, h3, _, h5⟩ := run_append_own_at (P := Tryd.prog) w b t ty e i z 1 by_ hU i1 i2 i3 i4 hz (by decide) v n xs hown ⟨a, 0, none⟩ m m news (by rw [hl, Nat.mul_one]) (fun j u hu => by
    rw [add_mid, Nat.zero_add, cell_of_row _ _ _ _ _ _ hc, ← hu]; simp) h1 (by unfold maxLen; omega) hn hb
  exact ⟨v', w', hr, h2, h3, h5⟩
theorem parts_ints : (Tryd.prog.info? 25).map (fun i => (i.zero, i.size, i.bytes)) = some (some (.slice none 0 0), 1, 24) := by kernel_rfl
/-- a list of lists grows in what lies behind all else -/
theorem app_below {w0 w w6 : World} {q2 n m : Nat} {e : TypeId} {v : Value} {xs : List Value} (hb : Below q2 w0 w) (hq : q2 ≤ w.heap.size) (ho : w.ownsRow q2 e m v n xs) (hg : w.grownBy w6 v.ownBlock) : Below q2 w0 w6 := hb.grown hg hq (fun k hk => by have := ho.lt k hk; omega)
end Go.Proofs.YtchnkpgkckadmabDoor
namespace Go.Proofs.YtchnkpgkckadmabDoor
set_option linter.unusedSimpArgs false
set_option linter.unusedVariables false
set_option maxRecDepth 100000
open Go.ChangeShapes Go.WideShapes Go.ChangeAt Go.RowKit Go.Pin Go.Pat Go.Deep
/-- patterns, a list of all their lists, what these hold now -/
structure SC (q q2 : Nat) (W0 : World) (v6 v11 : Value) (Q : List (PE × Nat)) (G : List Lv) (w : World) : Prop where
  old : Below q W0 w
  a6 : w.ownsRow (q + 1) 29 4 v6 Q.length (qcs Q)
  ln : ∀ x ∈ Q, q + 1 ≤ x.2 ∧ LnZ x.2 x.1 w
  l11 : w.ownsRow q2 25 1 v11 G.length (G.map fun f => f.2.1)
  ow : ∀ f ∈ G, w.ownsRow (q + 1) 3 1 f.2.1 f.2.2.length (f.2.2.map (Value.int .i64))
  nd : (v6.ownBlock.toList ++ (Q.map (·.2) ++ obs G)).Nodup
  lo : ∀ k ∈ v6.ownBlock.toList ++ (Q.map (·.2) ++ obs G), q + 1 ≤ k ∧ k < q2
  sz : q2 ≤ w.heap.size
theorem SA.sc {q q2 : Nat} {W0 w8 w : World} {v6 v11 : Value} {Q : List (PE × Nat)} (h : SA (q + 1) v6 Q w8) (hold : Below q W0 w8) (hq : q < w8.heap.size) (hq2 : w8.heap.size = q2) (hb : Below q2 w8 w) (h11 : w.ownsRow q2 25 1 v11 (qls Q).length ((qls Q).map fun f => f.2.1)) : SC q q2 W0 v6 v11 Q (qls Q) w := by
  have hb' : Below w8.heap.size w8 w := by rw [hq2]; exact hb
  have h1 := h.below hb'
  exact ⟨hold.trans (hb'.mono (Nat.le_of_lt hq)), h1.a6, fun x hx => ⟨(h1.ln x hx).1, (h1.ln x hx).2.1⟩, h11, h1.ow, h1.nd, fun k hk => by have := h.lt k hk; omega, by have := hb.size; omega⟩
theorem obs_same {A B : List Lv} {f : Int} {u : Value} {C D : List Int} : obs (A ++ (f, u, C) :: B) = obs (A ++ (f, u, D) :: B) := by
  rw [obs_mid, obs_mid]
/-- what is written into one list's block leaves all else -/
theorem SC.put {q q2 : Nat} {W0 w w' : World} {v6 v11 : Value} {Q : List (PE × Nat)} {A B : List Lv} {f : Int} {u : Value} {C D : List Int} {g : Nat} (h : SC q q2 W0 v6 v11 Q (A ++ (f, u, C) :: B) w) (hu : u.ownBlock = some g)
    (hb : Below q w w') (hk : ∀ k, k ≠ g → k < w.heap.size → w'.heap[k]? = w.heap[k]?) (ho : w'.ownsRow (q + 1) 3 1 u D.length (D.map (Value.int .i64))) : SC q q2 W0 v6 v11 Q (A ++ (f, u, D) :: B) w' := by
  have hgm : g ∈ obs (A ++ (f, u, C) :: B) := obs_mem (f := (f, u, C)) (by simp) hu
  have hg2 := h.lo g (List.mem_append_right _ (List.mem_append_right _ hgm))
  have hnd := h.nd
  have n1 := List.nodup_append.1 hnd
  have n2 := List.nodup_append.1 n1.2.1
  have hv6 : v6.ownBlock ≠ some g := fun e => n1.2.2 g (by rw [e]; simp) g (List.mem_append_right _ hgm) rfl
  have hln : ∀ x ∈ Q, x.2 ≠ g := fun x hx e => n2.2.2 x.2 (List.mem_map.2 ⟨x, hx, rfl⟩) g hgm e
  have hsp : obs (A ++ (f, u, C) :: B) = obs A ++ ([g] ++ obs B) := by rw [obs_mid, hu]; rfl
  have n3 := n2.2.1
  rw [hsp] at n3
  have n4 := List.nodup_append.1 n3
  have n5 := List.nodup_append.1 n4.2.1
  have hAB : ∀ f' ∈ A ++ B, f'.2.1.ownBlock ≠ some g := fun f' hf e => by
    rcases List.mem_append.1 hf with hf | hf
    · exact n4.2.2 g (obs_mem hf e) g (by simp) rfl
    · exact n5.2.2 g (by simp) g (obs_mem hf e) rfl
  have hmap : (A ++ (f, u, D) :: B).map (fun f => f.2.1) = (A ++ (f, u, C) :: B).map fun f => f.2.1 := by simp
  have hlen : (A ++ (f, u, D) :: B).length = (A ++ (f, u, C) :: B).length := by simp
  refine ⟨h.old.trans hb, own_keep h.a6 (fun k hk' => hk k (fun e => hv6 (by rw [← e]; exact hk')) (h.a6.lt k hk').2), fun x hx => ⟨(h.ln x hx).1, (h.ln x hx).2.keep (hk _ (hln x hx) (h.ln x hx).2.lt)⟩, ?_, fun f' hf => ?_, ?_, ?_, Nat.le_trans h.sz hb.size⟩
  · rw [hmap, hlen]
    exact own_keep h.l11 (fun k hk' => hk k (by have := h.l11.lt k hk'; omega) (h.l11.lt k hk').2)
  · rcases List.mem_append.1 hf with hf | hf
    · have := h.ow f' (by simp [hf])
      exact own_keep this (fun k hk' => hk k (fun e => hAB f' (List.mem_append_left _ hf) (by rw [← e]; exact hk')) (this.lt k hk').2)
    · rcases List.mem_cons.1 hf with hf | hf
      · subst hf; exact ho
      · have := h.ow f' (by simp [hf])
        exact own_keep this (fun k hk' => hk k (fun e => hAB f' (List.mem_append_right _ hf) (by rw [← e]; exact hk')) (this.lt k hk').2)
  · rw [obs_same (D := C)]; exact hnd
  · rw [obs_same (D := C)]; exact h.lo
theorem SC.set {q q2 : Nat} {W0 w : World} {v6 v11 : Value} {Q : List (PE × Nat)} {A B : List Lv} {f : Int} {C : List Int} {g cap : Nat} (h : SC q q2 W0 v6 v11 Q (A ++ (f, .slice (some ⟨g, 0, none⟩) C.length cap, C) :: B) w) (k : Nat) (x : Int) : SC q q2 W0 v6 v11 Q (A ++ (f, .slice (some ⟨g, 0, none⟩) C.length cap, C.set k x) :: B) (w.setCell ⟨g, k, none⟩ (.int .i64 x)) := by
  have ho := h.ow _ (show (f, Value.slice (some ⟨g, 0, none⟩) C.length cap, C) ∈ _ by simp)
  have hgl := ho.lt g rfl
  have hst := ho.stored k (.int .i64 x)
  refine h.put (g := g) rfl ((Below.refl q w).setCell (p := ⟨g, k, none⟩) (by show q ≤ g; omega) _) (fun j hj _ => heap_setCell_other _ _ _ _ hj) ?_
  simp only at hst
  rw [List.length_set, List.map_set]
  exact hst.1
def fl (t : Nat) (f : Lv) : Lv := (f.1, f.2.1, List.replicate f.2.2.length (100 + (t : Int)))
/-- the first i lists, filled -/
def GA (G : List Lv) (i : Nat) : List Lv := (List.range i).map fun t => fl t (G.getD t (0, undef, []))
theorem GA_succ (G : List Lv) (i : Nat) : GA G (i + 1) = GA G i ++ [fl i (G.getD i (0, undef, []))] := by unfold GA; rw [List.range_succ, List.map_append]; rfl
theorem fill_set {C : List Int} {k : Nat} {x : Int} (h : k < C.length) : (List.replicate k x ++ C.drop k).set k x = List.replicate (k + 1) x ++ C.drop (k + 1) := by
  rw [List.set_append_right _ _ (by simp), List.length_replicate, Nat.sub_self, List.drop_eq_getElem_cons h, List.set_cons_zero, List.replicate_succ', List.append_assoc]
  rfl
/-- the i-th list, and what lies beside it -/
theorem SC.at {q q2 : Nat} {W0 w : World} {v6 : Value} {a11 : Option Addr} {m k11 : Nat} {Q : List (PE × Nat)} {G : List Lv} (h : SC q q2 W0 v6 (.slice a11 m k11) Q G w) {i : Nat} {f : Lv} (hf : G[i]? = some f) : ∃ g, a11 = some ⟨g, 0, none⟩ ∧ w.cell? ⟨g, i, none⟩ = some f.2.1 := by
  have ho := h.l11
  have hm := (own_cell ho).1
  obtain ⟨g, e, _, hc⟩ := (own_cell ho).2 i f.2.1 (by rw [List.getElem?_map, hf]; rfl)
  exact ⟨g, e, hc⟩
end Go.Proofs.YtchnkpgkckadmabDoor
namespace Go.Proofs.YtchnkpgkckadmabDoor
set_option linter.unusedSimpArgs false
set_option linter.unusedVariables false
set_option maxRecDepth 100000
open Go.ChangeShapes Go.WideShapes Go.ChangeAt Go.RowKit Go.Pin Go.Pat Go.Deep
/-- a list that lies somewhere in a block, up to the block's end -/
def OA (e : TypeId) (k : Nat) (v : Value) (n : Nat) (xs : List Value) (w : World) : Prop :=
  xs.length = n * k ∧ ((v = .slice none 0 0 ∧ n = 0) ∨ ∃ g o cap cur, v = .slice (some ⟨g, o, none⟩) n cap ∧ w.heap[g]? = some (.cells cur e (0, 0)) ∧ n ≤ cap ∧ cur.size = o + cap * k ∧ (cur.toList.drop o).take (n * k) = xs)
theorem OA.lt {e : TypeId} {k : Nat} {v : Value} {n : Nat} {xs : List Value} {w : World} (h : OA e k v n xs w) {g : Nat} (hg : v.ownBlock = some g) : g < w.heap.size := by
  rcases h.2 with ⟨rfl, _⟩ | ⟨g', o, cap, cur, rfl, h1, _⟩
  · cases hg
  · injection hg with hg
    subst hg
    exact (Array.getElem?_eq_some_iff.1 h1).1
theorem OA.keep {e : TypeId} {k : Nat} {v : Value} {n : Nat} {xs : List Value} {w w' : World} (h : OA e k v n xs w) (hk : ∀ g, v.ownBlock = some g → w'.heap[g]? = w.heap[g]?) : OA e k v n xs w' := by
  refine ⟨h.1, ?_⟩
  rcases h.2 with h1 | ⟨g, o, cap, cur, rfl, h1, h2⟩
  · exact .inl h1
  · exact .inr ⟨g, o, cap, cur, rfl, (hk g rfl).trans h1, h2⟩
theorem own_oa {b : Nat} {e : TypeId} {k : Nat} {v : Value} {n : Nat} {xs : List Value} {w : World} (h : w.ownsRow b e k v n xs) : OA e k v n xs w := by
  refine ⟨h.1, ?_⟩
  rcases h.2 with h1 | ⟨g, cap, cur, rfl, _, h1, h2, _, h3, h4⟩
  · exact .inl h1
  · exact .inr ⟨g, 0, cap, cur, rfl, h1, h2, by omega, by simpa using h4⟩
theorem OA.sl {e : TypeId} {k : Nat} {v : Value} {n : Nat} {xs : List Value} {w : World} (h : OA e k v n xs w) : ∃ a c, v = .slice a n c := by
  rcases h.2 with ⟨rfl, rfl⟩ | ⟨g, o, cap, cur, rfl, _⟩
  · exact ⟨_, _, rfl⟩
  · exact ⟨_, _, rfl⟩
theorem OA.cell {e : TypeId} {k : Nat} {a : Option Addr} {m c n : Nat} {xs : List Value} {w : World} (h : OA e k (.slice a m c) n xs w) {j : Nat} {u : Value} (hu : xs[j]? = some u) : m = n ∧ ∃ g o, a = some ⟨g, o, none⟩ ∧ w.cell? ⟨g, o + j, none⟩ = some u ∧ w.frozen? ⟨g, o + j, none⟩ = false := by
  rcases h.2 with ⟨h1, rfl⟩ | ⟨g, o, cap, cur, h1, h2, h3, h4, h5⟩
  · have := h.1
    simp at this
    subst this
    simp at hu
  · injection h1 with e1 e2 e3
    subst e1 e2 e3
    refine ⟨rfl, g, o, rfl, ?_, frozen_of_row _ _ _ _ _ h2⟩
    rw [cell_of_row _ _ _ _ _ _ h2]
    rw [← h5, List.getElem?_take] at hu
    split at hu
    · rw [List.getElem?_drop] at hu
      simpa using hu
    · cases hu
theorem run_append_off {P : Program} (w : World) (t ty e : TypeId) (i : TypeInfo) (ht : P.underlying t = some (.slice e)) (hi : P.info? e = some i)
    (g o sLen sCap : Nat) (cur : Array Value) (hg : w.heap[g]? = some (.cells cur e (0, 0)))
    (a : Addr) (m c : Nat) (news : List Value) (hl : news.length = m * i.size) (hnews : ∀ j u, news[j]? = some u → w.cell? (a.add j) = some u) (h1 : ∀ u ∈ news, u.oneCell' = true)
    (hroom : sLen + m ≤ sCap) (hfit : o + sLen * i.size + news.length ≤ cur.size) :
    (Builtin.append_ #[t, t] ty #[.slice (some ⟨g, o, none⟩) sLen sCap, .slice (some a) m c]).run P w =
      .ok (.slice (some ⟨g, o, none⟩) (sLen + m) sCap) (w.setRow g (cur.toList.take (o + sLen * i.size) ++ news ++ cur.toList.drop (o + sLen * i.size + news.length)).toArray) := by
  have hf := run_firstCells_some (P := P) w i.size m a m c news hl hnews
  have hst := run_storeCells_at P g (o + sLen * i.size) e news 0 cur w hg (by simpa using hfit) h1
  simp only [Nat.add_zero] at hst
  have hadd : (⟨g, o, none⟩ : Addr).add (sLen * i.size) = ⟨g, o + sLen * i.size, none⟩ := add_mid _ _ _
  simp [Builtin.append_, run_underlying ht, sizeOf, typeInfo, hi, Builtin.lenOf, hroom, hf, hadd, hst]
/-- what an append has done: in its place, or in new memory -/
def AppR (e : TypeId) (w : World) (v : Value) (n k : Nat) (v' : Value) (w' : World) : Prop :=
  (∃ g o cap cur cur', v = .slice (some ⟨g, o, none⟩) n cap ∧ v' = .slice (some ⟨g, o, none⟩) (n + 1) cap ∧ w.heap[g]? = some (.cells cur e (0, 0)) ∧ w'.heap[g]? = some (.cells cur' e (0, 0)) ∧ cur'.size = cur.size ∧ (∀ j, j < o + n * k → cur'[j]? = cur[j]?) ∧ w.grownBy w' (some g)) ∨
  (v'.ownBlock = some w.heap.size ∧ Below w.heap.size w w')
theorem oa_app {t e : TypeId} {z : Value} {k by_ : Nat} (hU : Tryd.prog.underlying t = some (.slice e)) (hI : (Tryd.prog.info? e).map (fun i => (i.zero, i.size, i.bytes)) = some (some z, k, by_)) (hz : z.cells.size = k) (hk : 0 < k)
    {w : World} {v : Value} {n : Nat} {xs : List Value} (h : OA e k v n xs w) {a : Nat} {news : List Value} {t' : TypeId} {fr : Nat × Nat} (hc : w.heap[a]? = some (.cells news.toArray t' fr)) (hl : news.length = k) (h1 : ∀ u ∈ news, u.oneCell' = true) (hn : (n + 1) * by_ ≤ 140737488355328) (hn2 : n + 1 ≤ 140737488355328) :
    ∀ ty, ∃ v' w', (Builtin.append_ #[t, t] ty #[v, .slice (some ⟨a, 0, none⟩) 1 1]).run Tryd.prog w = .ok v' w' ∧ OA e k v' (n + 1) (xs ++ news) w' ∧ AppR e w v n k v' w' := fun ty => by
  obtain ⟨i, i1, hz'⟩ := Option.map_eq_some_iff.1 hI
  simp only [Prod.mk.injEq] at hz'
  obtain ⟨i2, i3, i4⟩ := hz'
  subst i3 i4
  have hnews : ∀ j u, news[j]? = some u → w.cell? ((⟨a, 0, none⟩ : Addr).add j) = some u := fun j u hu => by
    rw [add_mid, Nat.zero_add, cell_of_row _ _ _ _ _ _ hc, ← hu]; simp
  have hl1 : news.length = 1 * i.size := by rw [hl, Nat.one_mul]
  have h63 : n + 1 ≤ maxLen := by unfold maxLen; omega
  have hlen : (xs ++ news).length = (n + 1) * i.size := by rw [List.length_append, h.1, hl, Nat.add_mul, Nat.one_mul]
  have grown : ∀ (old : Nat), old < n + 1 → OA e i.size (.slice (some ⟨w.heap.size, 0, none⟩) (n + 1) (grownCap w (n + 1) old e)) (n + 1) (xs ++ news) (w.drew.alloc (.cells (xs.toArray ++ news.toArray ++ Builtin.zeroCells z.cells (grownCap w (n + 1) old e - (n + 1))) e)) := fun old ho => by
    have hge := grownCap_ge w (n + 1) old e
    refine ⟨hlen, .inr ⟨w.heap.size, 0, _, _, rfl, heap_alloc_new w.drew _, hge, ?_, ?_⟩⟩
    · simp only [Array.size_append, List.size_toArray, size_zeroCells, hz, h.1, hl, Nat.zero_add]
      rw [show n * i.size + i.size = (n + 1) * i.size by rw [Nat.add_mul, Nat.one_mul], ← Nat.add_mul]
      congr 1
      omega
    · simp only [Array.toList_append, List.append_assoc, List.drop_zero]
      rw [← List.append_assoc, ← hlen]
      exact List.take_left
  have hbn : ∀ o, Below w.heap.size w (w.drew.alloc o) := fun o => ((Below.refl _ w).drew).alloc (Nat.le_refl _) _
  rcases h.2 with ⟨rfl, rfl⟩ | ⟨g, o, cap, cur, rfl, h2, h3, h4, h5⟩
  · have hx : xs = [] := List.eq_nil_of_length_eq_zero (by simpa using h.1)
    subst hx
    have hr := run_append_nil (P := Tryd.prog) w t ty e i z hU i1 i2 ⟨a, 0, none⟩ 1 1 news hl1 hnews (by decide) (by decide) (by omega)
    have hg := grown 0 (by decide)
    simp only [Nat.zero_add, List.nil_append, Array.empty_append] at hg ⊢
    exact ⟨_, _, hr, hg, .inr ⟨rfl, hbn _⟩⟩
  · by_cases hroom : n + 1 ≤ cap
    · have hfit : o + n * i.size + news.length ≤ cur.size := by
        rw [hl, h4]
        have := Nat.mul_le_mul_right i.size hroom
        rw [Nat.add_mul, Nat.one_mul] at this
        omega
      have hr := run_append_off (P := Tryd.prog) w t ty e i hU i1 g o n cap cur h2 ⟨a, 0, none⟩ 1 1 news hl1 hnews h1 hroom hfit
      have hsz : (cur.toList.take (o + n * i.size) ++ news ++ cur.toList.drop (o + n * i.size + news.length)).toArray.size = cur.size := by
        simp only [List.size_toArray, List.length_append, List.length_take, List.length_drop, Array.length_toList]
        omega
      have hon : o + n * i.size ≤ cur.toList.length := by rw [Array.length_toList]; omega
      refine ⟨_, _, hr, ⟨hlen, .inr ⟨g, o, cap, _, rfl, setRow_heap w g cur _ e _ h2, hroom, by rw [hsz]; exact h4, ?_⟩⟩, .inl ⟨g, o, cap, cur, _, rfl, rfl, h2, setRow_heap w g cur _ e _ h2, hsz, fun j hj => ?_, ⟨rfl, rfl, rfl, by simp, fun k' _ hk' => setRow_other w g k' _ (fun e => hk' (by rw [e]))⟩⟩⟩
      · rw [List.append_assoc, List.drop_append_of_le_length (by rw [List.length_take]; omega), List.drop_take, show o + n * i.size - o = n * i.size by omega, h5, ← List.append_assoc, ← hlen]
        exact List.take_left
      · rw [List.getElem?_toArray, List.append_assoc, List.getElem?_append_left (by rw [List.length_take]; omega), List.getElem?_take_of_lt hj, Array.getElem?_toList]
    · have holds : ∀ j u, xs[j]? = some u → w.cell? ((⟨g, o, none⟩ : Addr).add j) = some u := fun j u hu => by
        obtain ⟨_, g', o', e1, hc', _⟩ := h.cell hu
        injection e1 with e1
        injection e1 with e1 e2
        subst e1 e2
        rw [add_mid]
        exact hc'
      have hr := run_append_grow (P := Tryd.prog) w t ty e i z hU i1 i2 ⟨g, o, none⟩ n cap xs h.1 holds ⟨a, 0, none⟩ 1 1 news hl1 hnews (by omega) (by simp only [maxLen] at h63; omega) (growslice_fits (by omega) hn)
      exact ⟨_, _, hr, grown cap (by omega), .inr ⟨rfl, hbn _⟩⟩
/-- a shorter list in the same place stays -/
theorem OA.inPlace {e : TypeId} {k : Nat} {w w' : World} {g o cap n m : Nat} {xs : List Value} {cur cur' : Array Value} (h : OA e k (.slice (some ⟨g, o, none⟩) m cap) m xs w) (hm : m ≤ n) (h2 : w.heap[g]? = some (.cells cur e (0, 0))) (h3 : w'.heap[g]? = some (.cells cur' e (0, 0))) (hs : cur'.size = cur.size) (hj : ∀ j, j < o + n * k → cur'[j]? = cur[j]?) : OA e k (.slice (some ⟨g, o, none⟩) m cap) m xs w' := by
  refine ⟨h.1, ?_⟩
  rcases h.2 with ⟨h1, _⟩ | ⟨g', o', cap', cur0, h1, h4, h5, h6, h7⟩
  · cases h1
  · injection h1 with e1 e2 e3
    injection e1 with e1
    injection e1 with e1 e4
    subst e1 e4 e3
    rw [h4] at h2
    injection h2 with h2
    injection h2 with h2
    subst h2
    refine .inr ⟨g, o, cap, cur', rfl, h3, h5, by rw [hs]; exact h6, ?_⟩
    rw [← h7]
    refine List.ext_getElem? fun j => ?_
    rw [List.getElem?_take, List.getElem?_take]
    split
    · rename_i hjm
      rw [List.getElem?_drop, List.getElem?_drop]
      have := Nat.mul_le_mul_right k hm
      have h8 := hj (o + j) (by omega)
      simpa using h8
    · rfl
end Go.Proofs.YtchnkpgkckadmabDoor
