import Derived.Test.YtchnkpgkckadmabGreatDoorMoac
import Derived.Test.YtchnkpgkckadmabGreatDoorMoaa
import Derived.Test.YtchnkpgkckadmabGreatDoorMoat
import Derived.Test.YtchnkpgkckadmabGreatDoorMobe
namespace Go.Proofs.YtchnkpgkckadmabGreatDoor
set_option linter.unusedSimpArgs false
set_option linter.unusedVariables false
open Go.ChangeShapes Go.WideShapes Go.ChangeAt Go.RowKit Go.Pin Go.Pat
set_option maxRecDepth 100000 in
set_option maxHeartbeats 2000000 in
theorem nints_true {W : World} {u v : Value} {C : List Int} (hu : RdN W u C) (hv : RdN W v C) :
    Calls Tryz.prog 17 #[u, v] W fun e w' => e = .returned (.bool true) ∧ Below W.heap.size W w' := by
  obtain ⟨a, ca, rfl, -, -, -⟩ := id hu
  obtain ⟨b, cb, rfl, -, -, -⟩ := id hv
  obtain ⟨-, hal, hua⟩ := hu.at
  obtain ⟨-, hbl, hvb⟩ := hv.at
  obtain ⟨q, hq⟩ : ∃ q, W.heap.size = q := ⟨_, rfl⟩
  obtain ⟨n, hnl⟩ : ∃ n, C.length = n := ⟨_, rfl⟩
  rw [hnl] at hua hvb hal
  rw [hnl]
  have HN : Hid (n ≤ 140737488355328) := hal
  have HA : Hid _ := hua
  have HB : Hid _ := hvb
  rw [hq]
  clear hu hv hua hvb hbl hal hnl
  go_enter Tryz.func17, Tryz.ntmps17
  go_wp2
  go_loopw [5] (fun v5 wr => ∃ i : Nat, i ≤ n ∧ v5 = .int .i64 i ∧ Below q W wr) (fun v _ => n - (intOf v).toNat)
  case atStart => exact ⟨0, Nat.zero_le _, rfl, Below.refl _ _⟩
  case round =>
    obtain ⟨i, hi, rfl, hp⟩ := hrel
    have HP : Hid (Below q W wr) := hp
    by_cases hlt : i < n
    · have b1 : (i : Int) < (n : Int) := by omega
      obtain ⟨g, o, rfl, h1⟩ := HA.out i hlt
      obtain ⟨g', o', rfl, h2⟩ := HB.out i hlt
      have c := h1 wr (by rw [hq]; exact hp)
      have d := h2 wr (by rw [hq]; exact hp)
      generalize C.getD i 0 = x at *
      clear h1 h2 hp
      go_wp2
      go_quiet (fail)
      go_wp2
      exact ⟨⟨i + 1, hlt, congrArg (Value.int .i64) (wrapS hlt HN.out), drewN_below HP.out _⟩, measS hlt HN.out⟩
    · have b1 : ¬ (i : Int) < (n : Int) := by omega
      clear hp
      go_wp2
      go_ret
      exact ⟨rfl, HP.out⟩
theorem npb2 {q : Nat} {w wr : World} {nm nm' : ByteArray} {v0 v1 vl v0' v1' vl' : Value} (h : PB q w nm v0 v1 vl wr) : PB q w nm v0 v1 vl (wr.alloc (.cells #[.string nm', v0', v1', vl'] 30)) := h.below ((Below.refl _ _).alloc (Nat.le_refl _) _)
set_option maxRecDepth 100000 in
set_option maxHeartbeats 4000000 in
theorem alike_true {W : World} {u v : Value} {p : Pt} (hu : RdP W u p) (hv : RdP W v p) :
    Calls Tryz.prog 7 #[u, v] W fun e w' => e = .returned (.bool true) ∧ Below W.heap.size W w' := by
  obtain ⟨v0, v1, vl, rfl, h0, h1, hl⟩ := hu
  obtain ⟨u0, u1, ul, rfl, g0, g1, gl⟩ := hv
  obtain ⟨a0, p0, rfl, -, -, -⟩ := id h0
  obtain ⟨a1, p1, rfl, -, -, -⟩ := id h1
  obtain ⟨al, cl, rfl, -, hll, -⟩ := id hl
  obtain ⟨e0, k0, rfl, -, -, -⟩ := id g0
  obtain ⟨e1, k1, rfl, -, -, -⟩ := id g1
  obtain ⟨el, kl, rfl, -, -, -⟩ := id gl
  have hst := pb_start W p.nm (.slice a0 p.b0.length p0) (.slice a1 p.b1.length p1) (.slice al p.ln.length cl)
  have hb1 : Below W.heap.size W (W.alloc (.cells #[.string p.nm, .slice a0 p.b0.length p0, .slice a1 p.b1.length p1, .slice al p.ln.length cl] 30)) := hst.old
  have hs2 := pb_start (W.alloc (.cells #[.string p.nm, .slice a0 p.b0.length p0, .slice a1 p.b1.length p1, .slice al p.ln.length cl] 30)) p.nm (.slice e0 p.b0.length k0) (.slice e1 p.b1.length k1) (.slice el p.ln.length kl)
  have hst2 := hst.below hs2.old
  have hb2 := hb1.trans (hs2.old.mono hb1.size)
  have hH0 := fun Y (hY : Below W.heap.size W Y) => nints_true (h0.below hY) (g0.below hY)
  have hH1 := fun Y (hY : Below W.heap.size W Y) => nints_true (h1.below hY) (g1.below hY)
  have hHL := fun Y (hY : Below W.heap.size W Y) => hl.below hY
  have hGL := fun Y (hY : Below W.heap.size W Y) => gl.below hY
  obtain ⟨q, hq⟩ : ∃ q, W.heap.size = q := ⟨_, rfl⟩
  obtain ⟨nm, hnm⟩ : ∃ nm, p.nm = nm := ⟨_, rfl⟩
  obtain ⟨x0, hx0⟩ : ∃ x0, Value.slice a0 p.b0.length p0 = x0 := ⟨_, rfl⟩
  obtain ⟨x1, hx1⟩ : ∃ x1, Value.slice a1 p.b1.length p1 = x1 := ⟨_, rfl⟩
  obtain ⟨y0, hy0⟩ : ∃ y0, Value.slice e0 p.b0.length k0 = y0 := ⟨_, rfl⟩
  obtain ⟨y1, hy1⟩ : ∃ y1, Value.slice e1 p.b1.length k1 = y1 := ⟨_, rfl⟩
  obtain ⟨L, hLn⟩ : ∃ L, p.ln.length = L := ⟨_, rfl⟩
  have hsz : (W.alloc (.cells #[.string p.nm, .slice a0 p.b0.length p0, .slice a1 p.b1.length p1, .slice al p.ln.length cl] 30)).heap.size = q + 1 := by rw [size_alloc, hq]
  rw [hsz] at hs2
  simp only [hq, hnm, hx0, hx1, hy0, hy1, hLn] at hst2 hs2 hb2 hH0 hH1 hHL hGL hll ⊢
  obtain ⟨W1, hW1⟩ : ∃ W1, W.alloc (.cells #[.string nm, x0, x1, .slice al L cl] 30) = W1 := ⟨_, rfl⟩
  simp only [hW1] at hst2 hs2 hb2
  obtain ⟨W2, hW2⟩ : ∃ W2, W1.alloc (.cells #[.string nm, y0, y1, .slice el L kl] 30) = W2 := ⟨_, rfl⟩
  simp only [hW2] at hst2 hs2 hb2
  have hz1 : W1.heap.size = q + 1 := by rw [← hW1, size_alloc, hq]
  have HI0 : Hid _ := hH0
  have HI1 : Hid _ := hH1
  have HHL : Hid _ := hHL
  have HGL : Hid _ := hGL
  have HP : Hid (PB q W nm x0 x1 (.slice al L cl) W2) := hst2
  have HQ : Hid (PB (q + 1) W1 nm y0 y1 (.slice el L kl) W2) := hs2
  have HB : Hid (Below q W W2) := hb2
  have HL : Hid (L ≤ 140737488355328 ∧ p.ln.length = L) := ⟨hll, hLn⟩
  have c0 := hst2.c0
  have c1 := hst2.c1
  have c2 := hst2.c2
  have c3 := hst2.c3
  have d0 := hs2.c0
  have d1 := hs2.c1
  have d2 := hs2.c2
  have d3 := hs2.c3
  have CI0 := HI0.out W2 HB.out
  clear hst hst2 hs2 hb1 hb2 hH0 hH1 hHL hGL hll h0 h1 hl g0 g1 gl hx0 hx1 hy0 hy1 hLn hnm hsz
  go_enter Tryz.func7, Tryz.ntmps7
  go_upto_region 3 with (first
    | (go_at_call 17; refine Calls.mono CI0 ?_; rintro e w1 ⟨rfl, hb⟩; have HP1 : Hid (PB q W nm x0 x1 (.slice al L cl) w1) := HP.out.below hb; have HQ1 : Hid (PB (q + 1) W1 nm y0 y1 (.slice el L kl) w1) := HQ.out.below hb; have HB1 : Hid (Below q W w1) := HP1.out.old; clear hb c0 c1 c2 c3 d0 d1 d2 d3 CI0; have c0 := HP1.out.c0; have c1 := HP1.out.c1; have c2 := HP1.out.c2; have c3 := HP1.out.c3; have d0 := HQ1.out.c0; have d1 := HQ1.out.c1; have d2 := HQ1.out.c2; have d3 := HQ1.out.c3; have CI1 := HI1.out w1 HB1.out)
    | (go_at_call 17; refine Calls.mono CI1 ?_; rintro e w2 ⟨rfl, hb⟩; have HP2 : Hid (PB q W nm x0 x1 (.slice al L cl) w2) := HP1.out.below hb; have HQ2 : Hid (PB (q + 1) W1 nm y0 y1 (.slice el L kl) w2) := HQ1.out.below hb; clear hb c0 c1 c2 c3 d0 d1 d2 d3 CI1; have c3 := HP2.out.c3; have d3 := HQ2.out.c3))
  clear c3 d3
  go_wp2
  go_loopw [5] (fun v5 wr => ∃ i : Nat, i ≤ L ∧ v5 = .int .i64 i ∧ PB q W nm x0 x1 (.slice al L cl) wr ∧ PB (q + 1) W1 nm y0 y1 (.slice el L kl) wr) (fun v _ => L - (intOf v).toNat)
  case atStart => exact ⟨0, Nat.zero_le _, rfl, HP2.out, HQ2.out⟩
  case round =>
    obtain ⟨i, hi, rfl, hp, hqq⟩ := hrel
    have HPR : Hid (PB q W nm x0 x1 (.slice al L cl) wr) := hp
    have HQR : Hid (PB (q + 1) W1 nm y0 y1 (.slice el L kl) wr) := hqq
    have c3 := hp.c3
    have d3 := hqq.c3
    by_cases hlt : i < L
    · have b1 : (i : Int) < (L : Int) := by omega
      obtain ⟨b, o, a2, n2, c2, rfl, hc, hn, hn2⟩ := (HHL.out wr hp.old).at hlt
      obtain ⟨b', o', a2', n2', c2', rfl, hc', hn', hn2'⟩ := (HGL.out wr hp.old).at hlt
      have en : n2' = n2 := by rw [hn2, hn2']
      subst en
      have HII : Hid (∀ Y, Below wr.heap.size wr Y → _) := fun Y hY => nints_true (hn.below hY) (hn'.below hY)
      have HC : Hid _ := hc
      have HC' : Hid _ := hc'
      generalize (p.ln.getD i (0, [])).1 = f at *
      clear hc hc' hn hn' hp hqq hn2 hn2'
      go_wp2
      refine Go.Pin.wp_region_cls (fun Y => Below wr.heap.size wr Y) (by kernel_rfl) (by kernel_rfl) ((Below.refl _ _).drew) ?_
      intro Sq fq hNq hRq hSq
      have z0 := fun x => (HPR.out.below (hRq x)).c3
      have z1 := fun x => (HQR.out.below (hRq x)).c3
      have k0 := fun x => (HC.out _ (hRq x)).1
      have k1 := fun x => (HC.out _ (hRq x)).2
      have l0 := fun x => (HC'.out _ (hRq x)).1
      have l1 := fun x => (HC'.out _ (hRq x)).2
      have CF := fun x => HII.out (fq x) (hRq x)
      repeat (go_big_quiet_step (exact (CF _).mono (fun e w' h => ⟨h.1, hSq _ ((hRq _).trans (h.2.mono (hRq _).size))⟩)))
      refine wpQuiet_nil ?_
      intro _ hw'
      obtain ⟨xq, hw''⟩ := hw'
      subst hw''
      have HYq := hRq xq
      generalize fq xq = Y at HYq ⊢
      clear hRq hSq hNq xq fq Sq z0 z1 k0 k1 l0 l1 CF c3 d3
      have HY : Hid (Below wr.heap.size wr Y) := HYq
      clear HYq
      go_wp2
      exact ⟨⟨i + 1, hlt, congrArg (Value.int .i64) (wrapS hlt HL.out.1), HPR.out.below HY.out, HQR.out.below HY.out⟩, measS hlt HL.out.1⟩
    · have b1 : ¬ (i : Int) < (L : Int) := by omega
      clear hp hqq
      go_wp2
      go_ret
      exact ⟨rfl, HPR.out.old⟩
end Go.Proofs.YtchnkpgkckadmabGreatDoor
namespace Go.Proofs.YtchnkpgkckadmabGreatDoor
set_option linter.unusedSimpArgs false
set_option linter.unusedVariables false
set_option maxRecDepth 100000
open Go.ChangeShapes Go.WideShapes Go.ChangeAt Go.RowKit Go.Pin Go.Pat Go.Deep
attribute [local go_sem] Oper.semAt_some
theorem all0' (W : World) : Calls Tryz.prog 4 #[] W fun e w' => e = .returned (.func (.func 9) #[] #[]) ∧ w' = W := by
  go_enter Tryz.func4, Tryz.ntmps4
  go_wp2
  go_ret
  exact ⟨rfl, rfl⟩
theorem cat_toL' (f : ByteArray) : toL (hdN ++ f ++ tlN) = toL hdN ++ (toL f ++ toL tlN) := by rw [toL_app, toL_app, List.append_assoc]
theorem cat_size' (f : ByteArray) : (hdN ++ f ++ tlN).size = f.size + 31 := by rw [ByteArray.size_append, ByteArray.size_append]; show 6 + f.size + 25 = _; omega
theorem plain_prs' {f : ByteArray} (hz : f.size ≤ 60) (hu : ∀ x ∈ toL f, up8 x = true) : nprs (hdN ++ f ++ tlN) = match tbI f with | none => (zPt, 13) | some p => (p, 0) := by
  have hF : FormB (hdN ++ f ++ tlN) f [] := ⟨by rw [cat_toL']; rfl, hu, fun w hw => nomatch hw⟩
  rw [nprs_form hF (by rw [cat_size']; omega)]
  unfold nmd
  cases h : tbI f with
  | none => rfl
  | some p =>
    simp only
    rw [mdf_nil (tab_f (tbI_mem h).1).ck]
    rfl
/-- the name of the i-th pattern -/
def pnm (i : Nat) : ByteArray := hdN ++ (tab.getD i zPt).nm ++ tlN
theorem tab_up : (tab.all fun p => decide (p.nm.size ≤ 60) && (toL p.nm).all up8) = true := by kernel_rfl
theorem tab_mem {i : Nat} (h : i < 38) : tab.getD i zPt ∈ tab := by
  have hl : i < tab.length := h
  rw [show tab.getD i zPt = tab[i] by simp [List.getD, hl]]
  exact List.getElem_mem _
theorem pnm_ok {i : Nat} (h : i < 38) : nprs (pnm i) = (tab.getD i zPt, 0) ∧ nprn (tab.getD i zPt).nm = (pnm i, 0) ∧ (tab.getD i zPt).nm.size ≤ 60 := by
  have hm := tab_mem h
  have h1 := List.all_eq_true.1 tab_up _ hm
  simp only [Bool.and_eq_true, decide_eq_true_eq, List.all_eq_true] at h1
  have h2 : nprs (pnm i) = (tab.getD i zPt, 0) := by
    unfold pnm
    rw [plain_prs' h1.1 h1.2]
    have h0 := tab_names
    rw [List.map_inj_left] at h0
    rw [h0 _ hm]
  refine ⟨h2, ?_, h1.1⟩
  unfold nprn
  rw [show hdN ++ (tab.getD i zPt).nm ++ tlN = pnm i from rfl, h2]
  rfl
theorem tab_apart : ((List.range 38).all fun i => (List.range 38).all fun j => decide (i = j) || !decide ((tab.getD i zPt).nm = (tab.getD j zPt).nm)) = true := by kernel_rfl
theorem pnm_ne {i j : Nat} (hi : i < 38) (hj : j < 38) (h : i ≠ j) : pnm i ≠ pnm j := fun e => by
  have e2 : (tab.getD i zPt).nm = (tab.getD j zPt).nm := by
    have := congrArg toL e
    unfold pnm at this
    rw [cat_toL', cat_toL'] at this
    exact toL_inj (List.append_cancel_right (List.append_cancel_left this))
  have h2 := List.all_eq_true.1 (List.all_eq_true.1 tab_apart i (List.mem_range.2 hi)) j (List.mem_range.2 hj)
  simp only [Bool.or_eq_true, decide_eq_true_eq, Bool.not_eq_true', decide_eq_false_iff_not] at h2
  rcases h2 with h2 | h2
  · exact h h2
  · exact h2 e2
theorem results_bool {fn : Func} {p : Tmp} (h : fn.results = #[.cell p 4]) (tmps : Array Value) (w : World) (g : Nat) (b : Bool)
    (hp : tmps.getD p undef = .pointer (some ⟨g, 0, none⟩)) (hc : w.cell? ⟨g, 0, none⟩ = some (.bool b)) : (results fn tmps).run Tryz.prog w = .ok (.bool b) w := by
  have hp' : tmps[p]?.getD undef = .pointer (some ⟨g, 0, none⟩) := by simpa using hp
  simp only [results, h]
  simp [Sem.run_bind, Result.andThen, asAddr, loadVar, hp', hc]
theorem str_ne {a b : ByteArray} (h : a ≠ b) : (a.toList == b.toList) = false := by
  have : ¬ a.toList = b.toList := fun e => h (by rw [Go.ByteArray.toList_eq, Go.ByteArray.toList_eq] at e; exact toL_inj e)
  simpa using this
theorem wpListIn_app {F : Fence} {nF : Nat} {P : Program} (w : World) {ops : Array Oper} {rest : List Oper} {o : Oper} {a : Act} {Q : Exit → Act → World → Prop} {R : Value → World → Prop} (hgd : o.guard = none) (d s : Operand) (t t' : TypeId)
    (ho : o.op = .call { callee := .builtin .append, args := #[d, s], argTypes := #[t, t'] }) (v u : Value) (hd : a.eval d = v) (hs : a.eval s = u)
    (hr : ∀ ty, ∃ v' w', (Builtin.append_ #[t, t'] ty #[v, u]).run P w = .ok v' w' ∧ R v' w') (h : ∀ v' w', R v' w' → wpListIn F nF P ops Q rest (a.put o.dst v') w') : wpListIn F nF P ops Q (o :: rest) a w := by
  refine wpListIn_plain hgd fun K hK => ?_
  obtain ⟨v', w', h1, h2⟩ := hr o.type
  unfold Oper.wpIn
  refine ⟨by simp [Oper.about, ho, resolve, Target.leads, Sem.run_pure], ?_⟩
  rw [Oper.semAt_plain F _ _ (by rw [ho]; intro c hc'; cases hc')]
  simp [execOp, ho, resolve, invoke, builtin, hd, hs, h1, Result.andThen]
  exact hK _ _ (h v' w' h2)
def nmsL (j : Nat) : List ByteArray := (List.range j).map pnm
/-- what holds of NamingAll's boxes behind j rounds -/
structure CA (q : Nat) (W0 : World) (n1 j : Nat) (X : World) : Prop where
  old : Below q W0 X
  hr : X.heap[q]? = some (.cells #[.bool false] 4)
  hn : X.heap[q + 1]? = some (.cells #[.int .i64 j] 3)
  hv : ∃ v, X.heap[q + 2]? = some (.cells #[v] 22) ∧ X.ownsRow n1 9 1 v j ((nmsL j).map Value.string)
  lt : q + 2 < X.heap.size
theorem CA.on {q : Nat} {W0 X Z : World} {n1 j : Nat} (h : CA q W0 n1 j X) (hn1 : q + 5 ≤ n1) (hb : Below (q + 3) X Z) (hk : ∀ k, k ≠ q + 4 → k < X.heap.size → Z.heap[k]? = X.heap[k]?) : CA q W0 n1 j Z := by
  obtain ⟨v, hv, ho⟩ := h.hv
  have hl := h.lt
  refine ⟨h.old.trans (hb.mono (by omega)), (hb.block _ (by omega)).trans h.hr, (hb.block _ (by omega)).trans h.hn, ⟨v, (hb.block _ (by omega)).trans hv, own_keep ho (fun g hg => ?_)⟩, Nat.lt_of_lt_of_le hl hb.size⟩
  have := ho.lt g hg
  exact hk g (by omega) this.2
theorem CA.below {q : Nat} {W0 X Z : World} {n1 j : Nat} (h : CA q W0 n1 j X) (hb : Below X.heap.size X Z) : CA q W0 n1 j Z := by
  obtain ⟨v, hv, ho⟩ := h.hv
  have hl := h.lt
  exact ⟨h.old.trans (hb.mono (by omega)), (hb.block _ (by omega)).trans h.hr, (hb.block _ (by omega)).trans h.hn, ⟨v, (hb.block _ (by omega)).trans hv, own_keep ho (fun g hg => hb.block g (ho.lt g hg).2)⟩, Nat.lt_of_lt_of_le hl hb.size⟩
theorem app_facts {w4 w6 : World} {n1 m : Nat} {o : Obj} {v v' : Value} {xs ys : List Value} (hs : (w4.alloc o).ownsRow n1 9 1 v m xs) (hn : n1 ≤ w4.heap.size) (h1 : w6.ownsRow n1 9 1 v' (m + 1) ys) (h2 : (w4.alloc o).grownBy w6 v.ownBlock) :
    w6.ownsRow n1 9 1 v' (m + 1) ys ∧ (∀ k, k < w4.heap.size → k < n1 → w6.heap[k]? = w4.heap[k]?) ∧ Below n1 w4 w6 := by
  have hk : ∀ k, k < n1 → w6.heap[k]? = w4.heap[k]? := fun k hk => by
    have h3 := h2.block k (by rw [size_alloc]; omega) (fun e => by have := hs.lt k e.symm; omega)
    exact h3.trans (Below.heap_alloc _ _ _ (by omega))
  refine ⟨h1, fun k _ h => hk k h, h2.os, h2.tape, h2.output, ?_, hk⟩
  have := h2.size
  rw [size_alloc] at this
  omega
set_option maxHeartbeats 16000000 in
theorem all16_in {ea : Int → Addr} (W : World) (hE : Errs ea W) :
    CallsIn Fence.wide 5 Tryz.prog 3 #[] W fun e w' => e = .returned (.bool true) ∧ Below W.heap.size W w' := by
  obtain ⟨q, hq⟩ : ∃ q, W.heap.size = q := ⟨_, rfl⟩
  have HE : Hid (∀ y, Below q W y → Errs ea y) := fun y hy => hE.below (by rw [hq]; exact hy)
  rw [hq]
  have hst : ∀ n1, CA q W n1 0 (((W.alloc (.cells #[.bool false] 4)).alloc (.cells #[.int .i64 0] 3)).alloc (.cells #[.slice none 0 0] 22)) := fun n1 => by
    have hs1 : (W.alloc (.cells #[.bool false] 4)).heap.size = q + 1 := by rw [size_alloc, hq]
    have hs2 : ((W.alloc (.cells #[.bool false] 4)).alloc (.cells #[.int .i64 0] 3)).heap.size = q + 2 := by rw [size_alloc, hs1]
    refine ⟨((((Below.refl _ _).alloc (by omega) _).alloc (by rw [hs1]; omega) _).alloc (by rw [hs2]; omega) _), ?_, ?_, ⟨_, ?_, own_nil0 _ _ _ _⟩, by rw [size_alloc, hs2]; omega⟩
    · rw [Below.heap_alloc _ _ _ (by rw [hs2]; omega), Below.heap_alloc _ _ _ (by rw [hs1]; omega), ← hq]
      exact heap_alloc_new _ _
    · rw [Below.heap_alloc _ _ _ (by rw [hs2]; omega), ← hs1]
      exact heap_alloc_new _ _
    · rw [← hs2]
      exact heap_alloc_new _ _
  have hs3 : (((W.alloc (.cells #[.bool false] 4)).alloc (.cells #[.int .i64 0] 3)).alloc (.cells #[.slice none 0 0] 22)).heap.size = q + 3 := by simp only [size_alloc]; omega
  have hsz1 : (W.alloc (.cells #[.bool false] 4)).heap.size = q + 1 := by rw [size_alloc, hq]
  have hsz2 : ((W.alloc (.cells #[.bool false] 4)).alloc (.cells #[.int .i64 0] 3)).heap.size = q + 2 := by rw [size_alloc, hsz1]
  obtain ⟨W3, hW3⟩ : ∃ W3, ((W.alloc (.cells #[.bool false] 4)).alloc (.cells #[.int .i64 0] 3)).alloc (.cells #[.slice none 0 0] 22) = W3 := ⟨_, rfl⟩
  rw [hW3] at hst hs3
  have H3 : Hid ((∀ n1, CA q W n1 0 W3) ∧ W3.heap.size = q + 3) := ⟨hst, hs3⟩
  clear hst hs3 hE
  have CA0 := all0' W3
  refine callsIn_of_wp_marks Tryz.func3 rfl trivial ?_ rfl
  simp only [Tryz.ntmps3, List.size_toArray, List.length_cons, List.length_nil, Nat.reduceAdd, Nat.reduceSub, Array.replicate_succ, Array.replicate_zero, List.push_toArray, List.append_toArray, List.nil_append, List.cons_append]
  gi_wp2_with (refine ⟨trivial, ?_⟩; gi_at_call 4; refine (callsIn_wide.2 CA0).mono ?_; rintro e wa ⟨rfl, hwa⟩; obtain rfl : W3 = wa := hwa.symm)
  clear CA0 hW3 hsz1 hsz2
  refine wpIn_range_own (q + 3) 38 H3.out.2 rfl (by decide) (gf := 9) rfl trivial (enters_of Tryz.func9 (by kernel_rfl) rfl) rfl
    (fun j W1 Y x => Below W1.heap.size W1 Y ∧ ∃ v0 v1 vl, x = .agg #[.string (tab.getD j zPt).nm, v0, v1, vl] ∧ FtP (fun b => W1.heap.size ≤ b ∧ b < Y.heap.size) Y v0 v1 vl (tab.getD j zPt)) (fun _ _ _ _ h => h.1)
    (fun n1 j X => q + 5 ≤ n1 ∧ CA q W n1 j X) (fun n1 j X Z h hb hk => ⟨h.1, h.2.on h.1 hb hk⟩)
    (fun l I w2 hs2 hY hIC h0 => all1_in (ea := ea) l (q + 3 + 2) I w2 hs2 (fun n1 j W1 Y v0 v1 vl a b c d e f => hY n1 j W1 Y _ a b c d ⟨e, v0, v1, vl, rfl, f⟩) (fun n1 j Y h => HE.out _ (hIC n1 j Y h).2.old) h0)
    (fun n1 hn => ⟨by omega, H3.out.1 n1⟩) ?round ?done
  case done =>
    rintro n1 Y hn ⟨hn5, hca⟩ hD
    have hcn : Y.cell? ⟨q + 1, 0, none⟩ = some (.int .i64 38) := by rw [cell_of_row _ _ _ _ _ _ hca.hn]; rfl
    have hcr : Y.cell? ⟨q, 0, none⟩ = some (.bool false) := by rw [cell_of_row _ _ _ _ _ _ hca.hr]; rfl
    have CW := awake_any Y (HE.out _ hca.old)
    have HCA : Hid (CA q W n1 38 Y) := hca
    have HD : Hid (Y.heap[q + 3]? = some (.deferred (some []))) := hD
    have hfr : Y.frozen? ⟨q, 0, none⟩ = false := frozen_of_row _ _ _ _ _ hca.hr
    clear hca hD
    gi_wp2_with (refine ⟨trivial, ?_⟩; gi_at_call 8; refine (callsIn_wide.2 CW).mono ?_; rintro e w5 ⟨rfl, hb⟩; have H5 : Hid (CA q W n1 38 w5 ∧ w5.heap[q + 3]? = some (.deferred (some []))) := ⟨HCA.out.below hb, (hb.block _ (Array.getElem?_eq_some_iff.1 HD.out).1).trans HD.out⟩; clear hb CW hcn hcr hfr; have hcr : w5.cell? ⟨q, 0, none⟩ = some (.bool false) := (by rw [cell_of_row _ _ _ _ _ _ H5.out.1.hr]; rfl); have hfr : w5.frozen? ⟨q, 0, none⟩ = false := frozen_of_row _ _ _ _ _ H5.out.1.hr)
    have hK : (w5.setCell ⟨q, 0, none⟩ (.bool true)).heap[q + 3]? = some (.deferred (some [])) := (heap_setCell_other _ _ _ _ (by show q + 3 ≠ q; omega)).trans H5.out.2
    have hrw : (w5.setCell ⟨q, 0, none⟩ (.bool true)).heap[q]? = some (.cells #[.bool true] 4) := by rw [Go.heap_setCell_same _ _ _ _ _ _ H5.out.1.hr]; rfl
    refine ⟨by simp, .inl ⟨_, _, rfl, run_takeDeferred hK, ?_⟩⟩
    refine ⟨_, results_bool (p := 0) rfl _ _ q true rfl (by rw [World.cell?_of_block (a := ⟨q, 0, none⟩) (w := w5.setCell ⟨q, 0, none⟩ (.bool true)) (World.putObj_heap_other (by show q ≠ q + 3; omega)), cell_of_row _ _ _ _ _ _ hrw]; rfl), rfl, ?_⟩
    exact (H5.out.1.old.setCell (p := ⟨q, 0, none⟩) (Nat.le_refl _) _).trans ⟨rfl, rfl, rfl, by rw [World.putObj_size]; exact Nat.le_refl _, fun k hk => World.putObj_heap_other (by omega)⟩
  case round =>
    rintro n1 j W1 Y x hn hnY hj hW1 ⟨hn5, hca⟩ ⟨hb, v0, v1, vl, rfl, hft⟩
    obtain ⟨d0, m0, e0, rfl⟩ := hft.1.sl3
    obtain ⟨d1, m1, e1, rfl⟩ := hft.2.1.sl3
    obtain ⟨d2, m2, e2, rfl⟩ := hft.2.2.sl3
    have hok := pnm_ok hj
    obtain ⟨P, hP⟩ : ∃ P, tab.getD j zPt = P := ⟨_, rfl⟩
    rw [hP] at hft hok
    simp only [hP]
    obtain ⟨s, hs⟩ : ∃ s, pnm j = s := ⟨_, rfl⟩
    rw [hs] at hok
    obtain ⟨nm, hnm⟩ : ∃ nm, P.nm = nm := ⟨_, rfl⟩
    have hal : Below Y.heap.size Y (Y.alloc (.cells #[.string P.nm, .slice d0 m0 e0, .slice d1 m1 e1, .slice d2 m2 e2] 30)) := (Below.refl _ _).alloc (Nat.le_refl _) _
    have hfk : ∀ r : Loop, FtP (fun b => W1.heap.size ≤ b ∧ b < Y.heap.size) ((Y.alloc (.cells #[.string P.nm, .slice d0 m0 e0, .slice d1 m1 e1, .slice d2 m2 e2] 30)).putObj (q + 3 + 1) (.loop r)) (.slice d0 m0 e0) (.slice d1 m1 e1) (.slice d2 m2 e2) P := fun r => hft.keep (fun b hb' => (World.putObj_heap_other (by omega)).trans (hal.block b hb'.2))
    have hrk : ∀ r : Loop, ((Y.alloc (.cells #[.string P.nm, .slice d0 m0 e0, .slice d1 m1 e1, .slice d2 m2 e2] 30)).putObj (q + 3 + 1) (.loop r)).heap[Y.heap.size]? = some (.cells #[.string P.nm, .slice d0 m0 e0, .slice d1 m1 e1, .slice d2 m2 e2] 30) := fun r => (World.putObj_heap_other (by omega)).trans (heap_alloc_new _ _)
    have hck : ∀ r : Loop, CA q W n1 j ((Y.alloc (.cells #[.string P.nm, .slice d0 m0 e0, .slice d1 m1 e1, .slice d2 m2 e2] 30)).putObj (q + 3 + 1) (.loop r)) := fun r => ((hca.below hb).below hal).on hn5 (below_put (q + 3) _ _) (fun k hk _ => World.putObj_heap_other hk)
    have hsk : ∀ r : Loop, n1 ≤ ((Y.alloc (.cells #[.string P.nm, .slice d0 m0 e0, .slice d1 m1 e1, .slice d2 m2 e2] 30)).putObj (q + 3 + 1) (.loop r)).heap.size := fun r => by rw [World.putObj_size, size_alloc]; omega
    have HK : Hid (_ ∧ _ ∧ _ ∧ _) := ⟨hfk, hrk, hck, hsk⟩
    have HO : Hid _ := hok
    have HJ : Hid (j < 38 ∧ q + 5 ≤ n1 ∧ pnm j = s) := ⟨hj, hn5, hs⟩
    have HPJ : Hid (tab.getD j zPt = P) := hP
    have HAL : Hid _ := hal
    clear hca hb hft hok hfk hrk hck hsk hal hj hn hn5 hW1 hnY hP hs
    rw [hnm] at HK HO HAL
    simp only [hnm]
    gi_wp2
    refine ⟨fun k hk => HAL.out.block k hk, HAL.out.size, fun r => ?_⟩
    obtain ⟨h1, h2, h3, h4⟩ := HK.out
    replace h1 := h1 r
    replace h2 := h2 r
    replace h3 := h3 r
    replace h4 := h4 r
    obtain ⟨g, hg⟩ : ∃ g, Y.heap.size = g := ⟨_, rfl⟩
    obtain ⟨Wb, hWb⟩ : ∃ Wb, (Y.alloc (.cells #[.string nm, .slice d0 m0 e0, .slice d1 m1 e1, .slice d2 m2 e2] 30)).putObj (q + 3 + 1) (.loop r) = Wb := ⟨_, rfl⟩
    rw [hWb] at h1 h2 h3 h4 ⊢
    simp only [hg] at h2 ⊢
    have hbx : BX g (.slice d0 m0 e0) (.slice d1 m1 e1) (.slice d2 m2 e2) P Wb := ⟨by rw [hnm]; exact h2, by have := h1.rd; exact this⟩
    have HB0 : Hid (CA q W n1 j Wb ∧ BX g (.slice d0 m0 e0) (.slice d1 m1 e1) (.slice d2 m2 e2) P Wb ∧ n1 ≤ Wb.heap.size) := ⟨h3, hbx, h4⟩
    have HNM : Hid (P.nm = nm) := hnm
    have CP := nprint_any (ea := ea) nm Wb (HE.out Wb h3.old) (by have := HO.out.2.2; omega)
    rw [HO.out.2.1] at CP
    simp only [EV_0] at CP
    have x0 := hbx.c0
    rw [hnm] at x0
    clear h1 h2 h3 h4 hbx hWb hg HK HAL
    gi_upto_region 6 with (refine ⟨trivial, ?_⟩; gi_at_call 5; refine (callsIn_wide.2 CP).mono ?_; rintro e w1 ⟨rfl, hb⟩; have H1 : Hid (Below Wb.heap.size Wb w1 ∧ CA q W n1 j w1 ∧ BX g (.slice d0 m0 e0) (.slice d1 m1 e1) (.slice d2 m2 e2) P w1) := ⟨hb, HB0.out.1.below hb, HB0.out.2.1.below hb⟩; clear hb CP x0)
    have CQ := nparse_any (ea := ea) s w1 (HE.out w1 H1.out.2.1.old) (by have := HO.out.2.2; rw [← HJ.out.2.2]; unfold pnm; rw [cat_size', HPJ.out, HNM.out]; omega)
    unfold NpP at CQ
    rw [HO.out.1] at CQ
    simp only [EV_0, HNM.out] at CQ
    gi_upto_region 7 with (refine ⟨trivial, ?_⟩; gi_at_call 6; refine (callsIn_wide.2 CQ).mono ?_; rintro e w2 ⟨hb, v0, v1, vl, rfl, hft, -⟩; have hrd := hft.rd; obtain ⟨a0, b0, c0, rfl⟩ := hft.1.sl3; obtain ⟨a1, b1, c1, rfl⟩ := hft.2.1.sl3; obtain ⟨a2, b2, c2, rfl⟩ := hft.2.2.sl3; have H2 : Hid (Below Wb.heap.size Wb w2 ∧ CA q W n1 j w2 ∧ BX g (.slice d0 m0 e0) (.slice d1 m1 e1) (.slice d2 m2 e2) P w2 ∧ RdP w2 (.agg #[.string P.nm, .slice a0 b0 c0, .slice a1 b1 c1, .slice a2 b2 c2]) P) := ⟨H1.out.1.trans (hb.mono H1.out.1.size), H1.out.2.1.below hb, H1.out.2.2.below hb, hrd⟩; clear hb hft hrd CQ)
    have hbx := bx_new w2 H2.out.2.2.2
    have hal : Below w2.heap.size w2 (w2.alloc (.cells #[.string P.nm, .slice a0 b0 c0, .slice a1 b1 c1, .slice a2 b2 c2] 30)) := (Below.refl _ _).alloc (Nat.le_refl _) _
    have hB := H2.out.1.trans (hal.mono H2.out.1.size)
    have hca := H2.out.2.1.below hal
    have hxx := H2.out.2.2.1.below hal
    obtain ⟨g2, hg2⟩ : ∃ g2, w2.heap.size = g2 := ⟨_, rfl⟩
    obtain ⟨w3, hw3⟩ : ∃ w3, w2.alloc (.cells #[.string nm, .slice a0 b0 c0, .slice a1 b1 c1, .slice a2 b2 c2] 30) = w3 := ⟨_, rfl⟩
    simp only [HNM.out, hg2, hw3] at hbx hB hca hxx ⊢
    have HC3 : Hid (Below Wb.heap.size Wb w3 ∧ CA q W n1 j w3) := ⟨hB, hca⟩
    have CL := alike_true hxx.rd hbx.rd
    have x0 := hxx.c0
    have x1 := hxx.c1
    have x2 := hxx.c2
    have x3 := hxx.c3
    have y0 := hbx.c0
    have y1 := hbx.c1
    have y2 := hbx.c2
    have y3 := hbx.c3
    rw [HNM.out] at CL x0 y0
    have bj : (j : Int) ≤ 38 := by have := HJ.out.1; omega
    have bj0 : (0 : Int) ≤ (j : Int) := by omega
    have bj1 : ¬ (j : Int) > 200 := by omega
    have bj2 : ¬ (200 : Int) < (j : Int) := by omega
    clear hbx hal hB hca hxx hg2 hw3 H2 H1
    gi_upto_region 9 with (refine ⟨trivial, ?_⟩; gi_at_call 7; refine (callsIn_wide.2 CL).mono ?_; rintro e w4 ⟨rfl, hb⟩; have H4 : Hid (Below Wb.heap.size Wb w4 ∧ CA q W n1 j w4) := ⟨HC3.out.1.trans (hb.mono HC3.out.1.size), HC3.out.2.below hb⟩; clear hb CL x0 x1 x2 x3 y0 y1 y2 y3; have cn : w4.cell? ⟨q + 1, 0, none⟩ = some (.int .i64 j) := (by rw [cell_of_row _ _ _ _ _ _ H4.out.2.hn]; rfl))
    obtain ⟨v, hv, hown⟩ := H4.out.2.hv
    obtain ⟨an, kn, rfl⟩ := own_slice' hown
    have HV : Hid (w4.heap[q + 2]? = some (.cells #[.slice an j kn] 22) ∧ w4.ownsRow n1 9 1 (.slice an j kn) j ((nmsL j).map Value.string)) := ⟨hv, hown⟩
    have c2 : w4.cell? ⟨q + 2, 0, none⟩ = some (.slice an j kn) := by rw [cell_of_row _ _ _ _ _ _ hv]; rfl
    clear hv hown cn
    gi_wp2
    gi_loopw [8] (fun v8 wr => ∃ i : Nat, i ≤ j ∧ v8 = .int .i64 i ∧ wr = w4) (fun v _ => j - (intOf v).toNat)
    case atStart => exact ⟨0, Nat.zero_le _, rfl, rfl⟩
    case round =>
      obtain ⟨i, hi, rfl, hwr⟩ := hrel
      obtain rfl : w4 = wr := hwr.symm
      have bi0 : (0 : Int) ≤ (i : Int) := by omega
      by_cases hlt : i < j
      · have b1 : (i : Int) < (j : Int) := by omega
        have HLT : Hid (i < j) := hlt
        have hnl : ((nmsL j).map Value.string)[i]? = some (.string (pnm i)) := by simp [nmsL, List.getElem?_map, hlt]
        obtain ⟨gn, e, _, hc⟩ := (own_cell HV.out.2).2 i _ hnl
        subst e
        have hne : ((pnm i).toList == s.toList) = false := by rw [← HJ.out.2.2]; exact str_ne (pnm_ne (by have := HJ.out.1; omega) HJ.out.1 (by omega))
        obtain ⟨z, hz⟩ : ∃ z, pnm i = z := ⟨_, rfl⟩
        rw [hz] at hc hne
        clear hlt hi hnl hz
        gi_wp2
        go_roundw
        case rel => exact ⟨i + 1, HLT.out, congrArg (Value.int .i64) (Int.natCast_succ i).symm, trivial⟩
        case measure => have := HLT.out; show j - ((i : Int) + 1).toNat < j - ((i : Int)).toNat; omega
      · have b1 : ¬ (i : Int) < (j : Int) := by omega
        have hst := HV.out.2.alloc (.cells #[.string s] 9)
        have hrow : (w4.alloc (.cells #[.string s] 9)).heap[w4.heap.size]? = some (.cells [Value.string s].toArray 9 (0, 0)) := heap_alloc_new _ _
        have hn4 : n1 ≤ w4.heap.size := by have := HB0.out.2.2; have := H4.out.1.size; omega
        have HAP : Hid _ := own_app Tryz.underlying22 parts_str rfl (by decide) hst hrow rfl (fun u hu => by simp at hu; subst hu; rfl) (by have := HJ.out.1; omega) (by have := HJ.out.1; omega) (by rw [size_alloc]; omega)
        have HSO : Hid _ := hst
        have HN4 : Hid (n1 ≤ w4.heap.size) := hn4
        clear hlt hi hst hrow hn4
        gi_wp2_with (gi_at_builtin; refine wpListIn_app _ rfl (.tmp 50) (.tmp 52) 22 22 rfl _ _ rfl rfl HAP.out ?_; rintro v' w6 ⟨h1, h2, h3⟩; have H6 : Hid (w6.ownsRow n1 9 1 v' (j + 1) ((nmsL j).map Value.string ++ [.string s]) ∧ (∀ k, k < w4.heap.size → k < n1 → w6.heap[k]? = w4.heap[k]?) ∧ Below n1 w4 w6) := app_facts HSO.out HN4.out h1 h2; clear h1 h2 h3; have c6 : w6.cell? ⟨q + 2, 0, none⟩ = some (.slice an j kn) := (by rw [cell_of_row _ _ _ _ _ _ ((H6.out.2.1 (q + 2) (by have := HJ.out.2.1; have := HN4.out; omega) (by have := HJ.out.2.1; omega)).trans HV.out.1)]; rfl); have f6 : w6.frozen? ⟨q + 2, 0, none⟩ = false := frozen_of_row _ _ _ _ _ ((H6.out.2.1 (q + 2) (by have := HJ.out.2.1; have := HN4.out; omega) (by have := HJ.out.2.1; omega)).trans HV.out.1); have c7 : w6.cell? ⟨q + 1, 0, none⟩ = some (.int .i64 j) := (by rw [cell_of_row _ _ _ _ _ _ ((H6.out.2.1 (q + 1) (by have := HJ.out.2.1; have := HN4.out; omega) (by have := HJ.out.2.1; omega)).trans H4.out.2.hn)]; rfl); have f7 : w6.frozen? ⟨q + 1, 0, none⟩ = false := frozen_of_row _ _ _ _ _ ((H6.out.2.1 (q + 1) (by have := HJ.out.2.1; have := HN4.out; omega) (by have := HJ.out.2.1; omega)).trans H4.out.2.hn); have nq : ¬ q + 1 = q + 2 := (by omega); have nq2 : ¬ q + 2 = q + 1 := (by omega); obtain ⟨p6, t6, hv6⟩ := own_slice' H6.out.1; subst hv6)
        have hq5 := HJ.out.2.1
        have hbn := HB0.out.2.2
        have h64 : ∀ k, k < n1 → w6.heap[k]? = Wb.heap[k]? := fun k hk => (H6.out.2.1 k (by have := HN4.out; omega) hk).trans (H4.out.1.block k (by omega))
        have ho : ∀ k, k ≠ q + 1 → k ≠ q + 2 → ((w6.setCell ⟨q + 2, 0, none⟩ (.slice p6 (j + 1) t6)).setCell ⟨q + 1, 0, none⟩ (.int .i64 ((j : Int) + 1))).heap[k]? = w6.heap[k]? := fun k h1 h2 => (heap_setCell_other _ _ _ _ (by show k ≠ q + 1; exact h1)).trans (heap_setCell_other _ _ _ _ (by show k ≠ q + 2; exact h2))
        have hsz : ((w6.setCell ⟨q + 2, 0, none⟩ (.slice p6 (j + 1) t6)).setCell ⟨q + 1, 0, none⟩ (.int .i64 ((j : Int) + 1))).heap.size = w6.heap.size := by simp only [World.size_setCell]
        have hs6 : Wb.heap.size ≤ w6.heap.size := Nat.le_trans H4.out.1.size H6.out.2.2.size
        have hb6 : Below q W w6 := H4.out.2.old.trans (H6.out.2.2.mono (by omega))
        have hr2 : w6.heap[q + 2]? = some (.cells #[.slice an j kn] 22) := (H6.out.2.1 _ (by have := HN4.out; omega) (by omega)).trans HV.out.1
        have hr1 : (w6.setCell ⟨q + 2, 0, none⟩ (.slice p6 (j + 1) t6)).heap[q + 1]? = some (.cells #[.int .i64 j] 3) := (heap_setCell_other _ _ _ _ (by show q + 1 ≠ q + 2; omega)).trans ((H6.out.2.1 _ (by have := HN4.out; omega) (by omega)).trans H4.out.2.hn)
        refine ⟨(ho _ (by omega) (by omega)).trans (h64 _ (by omega)), (ho _ (by omega) (by omega)).trans (h64 _ (by omega)), fun k h1 h2 => (ho _ (by omega) (by omega)).trans (h64 _ h2), by rw [hsz]; exact hs6, hq5, ?_⟩
        refine ⟨(hb6.setCell (p := ⟨q + 2, 0, none⟩) (by show q ≤ q + 2; omega) _).setCell (p := ⟨q + 1, 0, none⟩) (by show q ≤ q + 1; omega) _, (ho _ (by omega) (by omega)).trans ((H6.out.2.1 _ (by have := HN4.out; omega) (by omega)).trans H4.out.2.hr), ?_, ⟨.slice p6 (j + 1) t6, ?_, ?_⟩, by rw [hsz]; omega⟩
        · rw [Go.heap_setCell_same _ _ _ _ _ _ hr1]; rfl
        · rw [heap_setCell_other _ _ _ _ (by show q + 2 ≠ q + 1; omega), Go.heap_setCell_same _ _ _ _ _ _ hr2]; rfl
        · have hnl : (nmsL (j + 1)).map Value.string = (nmsL j).map Value.string ++ [.string s] := by
            unfold nmsL
            rw [List.range_succ, ← HJ.out.2.2]
            simp
          rw [hnl]
          exact own_keep H6.out.1 (fun k hk => by have := H6.out.1.lt k hk; exact ho k (by omega) (by omega))
theorem alls16_walk {ea : Int → Addr} (W : World) (hE : Errs ea W) :
    Calls Tryz.prog 3 #[] W fun e w' => e = .returned (.bool true) ∧ Below W.heap.size W w' := callsIn_wide.1 (all16_in W hE)
end Go.Proofs.YtchnkpgkckadmabGreatDoor
