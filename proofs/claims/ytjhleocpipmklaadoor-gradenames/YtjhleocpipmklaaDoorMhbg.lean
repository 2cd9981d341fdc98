import Derived.Test.YtjhleocpipmklaaDoorMhai
import Derived.Test.YtjhleocpipmklaaDoorMhag
import Derived.Test.YtjhleocpipmklaaDoorMhaa
import Derived.Test.YtjhleocpipmklaaDoorMhak
import Derived.Test.YtjhleocpipmklaaDoorMhbe
import Derived.Test.YtjhleocpipmklaaDoorMhaj
import Derived.Test.YtjhleocpipmklaaDoorMhba
import Derived.Test.YtjhleocpipmklaaDoorMhbf
namespace Go.Proofs.YtjhleocpipmklaaDoor
set_option linter.unusedSimpArgs false
set_option linter.unusedVariables false
open Go.ChangeShapes Go.WideShapes Go.ChangeAt Go.RowKit Go.Pin Go.Pat Go.Deep
/-- a text that came in -/
theorem open_text {H : Type} {enc : TypeId × Value → H} {W : World} {v : Value} {d : DataW H} {ps : List MemPlace} (hval : ∃ s, v = .string s)
    (h : DataW.Trod enc Tryd.prog W 0 (fun _ => true) true 9 v d ps) (hs : ∀ k ∈ d.weights Tryd.prog 9, k ≤ reachBytes) : ∃ s : ByteArray, v = .string s ∧ s.size ≤ 140737488355328 := by
  obtain ⟨s, rfl⟩ := hval
  obtain ⟨fuel, hf⟩ := h
  obtain ⟨s', h1, h2, _⟩ := DataW.trod_string Tryd.underlying9 hf
  simp only [Value.cells, List.cons.injEq, and_true, Value.string.injEq] at h1
  subst h1
  simp only [Prod.mk.injEq] at h2
  refine ⟨s, rfl, ?_⟩
  have := hs s.data.toList.length (by rw [h2.1]; simp [DataW.weights])
  unfold reachBytes at this
  have e : s.data.toList.length = s.size := by simp
  omega
theorem bytes_string : Tryd.prog.bytesOf 9 = 16 := by kernel_rfl
/-- words that came in -/
theorem open_words {H : Type} {enc : TypeId × Value → H} {W : World} {v : Value} {d : DataW H} {ps : List MemPlace} (hv : ∃ a n c, v = .slice a n c)
    (h : DataW.Trod enc Tryd.prog W 0 (fun _ => true) true 74 v d ps) (hs : ∀ k ∈ d.weights Tryd.prog 74, k ≤ reachBytes) :
    ∃ ws : List ByteArray, RdS W v ws ∧ (∀ x ∈ ws, x.size ≤ 140737488355328) ∧ (∀ a n c, v = .slice a n c → n ≤ c) ∧ ws.length ≤ 140737488355328 := by
  obtain ⟨a, n, c, rfl⟩ := hv
  obtain ⟨fuel, hf⟩ := h
  rcases open_strs Tryd.underlying74 Tryd.underlying9 (by kernel_rfl) hf with ⟨hcs, _⟩ | ⟨y, len, cap, m, Sx, hcs, _, hl, hm, hmm, hx, hc⟩
  · simp only [Value.cells, List.cons.injEq, and_true, Value.slice.injEq] at hcs
    obtain ⟨rfl, rfl, rfl⟩ := hcs
    exact ⟨[], ⟨none, 0, rfl, fun j hj => nomatch hj⟩, (fun x hx => nomatch hx), fun a n c h => by injection h with h1 h2 h3; omega, by simp⟩
  · simp only [Value.cells, List.cons.injEq, and_true, Value.slice.injEq] at hcs
    obtain ⟨rfl, rfl, rfl⟩ := hcs
    simp only [Prod.mk.injEq] at hx
    have hlm : n ≤ m := by rw [hmm]; split <;> omega
    refine ⟨(List.range n).map Sx, ⟨some y, c, by simp, fun j hj => ?_⟩, fun x hx' => ?_, fun a n c h => by injection h with h1 h2 h3; omega, ?_⟩
    · have hj' : j < n := by simpa using hj
      have h0 := (hc 0 (by omega)).1
      obtain ⟨b, o, rfl⟩ := add_spot h0
      have h1 := (hc j (by omega)).1
      rw [add_mid] at h1
      refine ⟨b, o, rfl, ?_⟩
      rw [h1]
      simp [List.getD, hj']
    · obtain ⟨i, hi, rfl⟩ := List.mem_map.1 hx'
      have := hs (Sx i).data.toList.length (by
        rw [hx.1]
        simp only [DataW.weights, Tryd.underlying74]
        exact List.mem_cons_of_mem _ (List.mem_append_left _ (weightsAll_mem (List.mem_map.2 ⟨i, hi, rfl⟩) (by simp [DataW.weights]))))
      unfold reachBytes at this
      have e : (Sx i).data.toList.length = (Sx i).size := by simp
      omega
    · have := hs ((n + (m - n)) * 16) (by
        rw [hx.1]
        simp only [DataW.weights, Tryd.underlying74]
        refine List.mem_cons.2 (.inl ?_)
        rw [bytes_string]
        simp)
      unfold reachBytes at this
      simp
      omega
end Go.Proofs.YtjhleocpipmklaaDoor
/- a name, and psks that are laid in, make no difference tz what a message is worth (P17.4) -/
namespace Go.Pat
set_option linter.unusedVariables false
structure Sim (p q : Pt) : Prop where
  len : q.ln.length = p.ln.length
  fr : ∀ k, (q.ln.getD k (0, [])).1 = (p.ln.getD k (0, [])).1
  an : ∀ k t, t ≠ 7 → ((q.ln.getD k (0, [])).2.any (· == t)) = ((p.ln.getD k (0, [])).2.any (· == t))
theorem Sim.oneWay {p q : Pt} (h : Sim p q) : oneWay q = oneWay p := by
  have key : ∀ p : Pt, Go.Pat.oneWay p = (decide (p.ln.length = 1) && ((p.ln.getD 0 (0, [])).1 == 0)) := fun p => by
    obtain ⟨nm, b0, b1, l⟩ := p
    unfold Go.Pat.oneWay
    match l with
    | [] => rfl
    | [(f, ts)] => simp
    | a :: b :: r => simp
  rw [key, key, h.len, h.fr]
theorem Sim.lst {p q : Pt} (h : Sim p q) : lst q = lst p := by unfold Go.Pat.lst; rw [h.len, h.fr]
theorem Sim.sender {p q : Pt} (h : Sim p q) (k : Nat) : sender q k = sender p k := by
  unfold Go.Pat.sender
  rw [h.len, h.fr, h.oneWay, h.lst]
theorem any_take {l : List Ln} {f : Ln → Bool} : ∀ n, (l.take n).any f = (List.range n).any fun k => decide (k < l.length) && f (l.getD k (0, []))
  | 0 => by simp
  | n + 1 => by
    rw [List.take_add_one, List.any_append, any_take n, List.range_succ, List.any_append]
    congr 1
    by_cases h : n < l.length
    · simp [List.getD, h]
    · simp [h]
theorem Sim.dn {p q : Pt} (h : Sim p q) (k : Nat) {t : Int} (ht : t ≠ 7) : dn q k t = dn p k t := by
  unfold Go.Pat.dn
  rw [any_take, any_take, h.len]
  congr 1
  funext j
  rw [h.an j t ht]
theorem stc_ne (s : Int) : stc s ≠ 7 := by unfold stc; split <;> decide
theorem Sim.src {p q : Pt} (h : Sim p q) (k : Nat) : src q k = src p k := by
  unfold Go.Pat.src
  rw [h.sender, h.dn k (stc_ne _), h.dn k (by decide)]
theorem Sim.bst {p q : Pt} (h : Sim p q) (f : Int) : ∀ k, bst q f k = bst p f k
  | 0 => rfl
  | k + 1 => by
    unfold Go.Pat.bst
    rw [h.sender, h.src, h.bst f k]
theorem Sim.dst {p q : Pt} (h : Sim p q) (k : Nat) : dst q k = dst p k := by
  unfold Go.Pat.dst
  rw [h.sender, h.dn k (stc_ne _), h.dn k (by decide), h.bst]
theorem sim_nm (p : Pt) (nm : ByteArray) : Sim p ⟨nm, p.b0, p.b1, p.ln⟩ := ⟨rfl, fun _ => rfl, fun _ _ _ => rfl⟩
theorem sim_set {p : Pt} {nm : ByteArray} {i : Nat} (hi : i < p.ln.length) (ts : List Int) (h : ∀ t : Int, t ≠ 7 → (ts.any (· == t)) = ((p.ln.getD i (0, [])).2.any (· == t))) : Sim p ⟨nm, p.b0, p.b1, p.ln.set i ((p.ln.getD i (0, [])).1, ts)⟩ := by
  refine ⟨by simp, fun k => ?_, fun k t ht => ?_⟩
  · by_cases e : k = i
    · subst e; simp [List.getD, hi]
    · simp only [List.getD, List.getElem?_set_ne (Ne.symm e)]
  · by_cases e : k = i
    · subst e; rw [show (p.ln.set k ((p.ln.getD k (0, [])).1, ts)).getD k (0, []) = ((p.ln.getD k (0, [])).1, ts) by simp [List.getD, hi]]; exact h t ht
    · simp only [List.getD, List.getElem?_set_ne (Ne.symm e)]
/-- a psk word -/
theorem sim_psk {p q : Pt} {w : ByteArray} (hw : w ≠ fbW) (h : mdf p [w] = (q, 0)) : Sim p q ∧ chk p = 0 ∧ chk q = 0 := by
  unfold mdf at h
  split at h
  · rename_i h1
    simp only [Prod.mk.injEq] at h
    exact absurd h.2 h1
  · rename_i h1
    have hc : chk p = 0 := Classical.not_not.1 h1
    have hwm : wdsM p [w] [w].length = wd1 true p (-1) w := rfl
    rw [hwm] at h
    cases e : wd1 true p (-1) w with
    | none => rw [e] at h; simp at h
    | some x =>
      obtain ⟨r, l⟩ := x
      rw [e] at h
      simp only at h
      split at h
      · rename_i h2
        simp only [Prod.mk.injEq] at h
        exact absurd h.2 h2
      · rename_i h2
        simp only [Prod.mk.injEq] at h
        obtain ⟨h, -⟩ := h
        have hcr : chk r = 0 := Classical.not_not.1 h2
        have hs : Sim p ⟨nmN p.nm [w] [w].length, r.b0, r.b1, r.ln⟩ := by
          unfold wd1 at e
          rw [if_neg (fun h => hw h.1)] at e
          split at e
          · cases e
          · rename_i h3
            split at e
            · injection e with e
              simp only [Prod.mk.injEq] at e
              obtain ⟨rfl, -⟩ := e
              exact sim_set (by omega) _ (fun t ht => by simp [Ne.symm ht])
            · rename_i h4
              injection e with e
              simp only [Prod.mk.injEq] at e
              obtain ⟨rfl, -⟩ := e
              exact sim_set (by omega) _ (fun t ht => by simp [Ne.symm ht])
        refine ⟨by rw [← h]; exact hs, hc, ?_⟩
        rw [← h]
        exact hcr
theorem chk_nm (p : Pt) (nm : ByteArray) : chk ⟨nm, p.b0, p.b1, p.ln⟩ = chk p := rfl
end Go.Pat
namespace Go.Proofs.YtjhleocpipmklaaDoor
set_option linter.unusedSimpArgs false
set_option linter.unusedVariables false
open Go.ChangeShapes Go.WideShapes Go.ChangeAt Go.RowKit Go.Pin Go.Pat Go.Deep
/-- patterns that are alike in what counts are worth the same -/
theorem sim_lv {p q : Pt} (h : Sim p q) (hc : chk q = chk p) (more : Int) : lvE q more = lvE p more ∧ lvL q more = lvL p more := by
  have hE : lvE q more = lvE p more := by unfold lvE; rw [hc]
  refine ⟨hE, ?_⟩
  unfold lvL
  rw [hE, h.len]
  split
  · refine List.map_congr_left fun k _ => ?_
    unfold gd
    rw [h.sender, h.src, h.dst]
  · rfl
end Go.Proofs.YtjhleocpipmklaaDoor
namespace Go.Proofs.YtjhleocpipmklaaDoor
set_option linter.unusedSimpArgs false
set_option linter.unusedVariables false
open Go.ChangeShapes Go.WideShapes Go.ChangeAt Go.RowKit Go.Pin Go.Pat Go.Deep
theorem str_inj17 {a b : ByteArray} (h : a.toList = b.toList) : a = b := by
  rw [Go.ByteArray.toList_eq, Go.ByteArray.toList_eq] at h
  obtain ⟨⟨x⟩⟩ := a
  obtain ⟨⟨y⟩⟩ := b
  simp only at h
  rw [h]
theorem str_eq17 (a b : ByteArray) : (a.toList == b.toList) = decide (a = b) := by
  by_cases h : a = b
  · rw [h]; simp
  · rw [decide_eq_false h]
    cases e : a.toList == b.toList with
    | false => rfl
    | true => exact absurd (str_inj17 (by simpa using e)) h
theorem strP17 (s : ByteArray) : (s.toList == [112, 115, 107]) = decide (s = ⟨#[112, 115, 107]⟩) := by rw [← str_eq17, show (⟨#[112, 115, 107]⟩ : ByteArray).toList = [112, 115, 107] by simp]
theorem psk_nfb {s : ByteArray} (h : s.extract 0 3 = ⟨#[112, 115, 107]⟩) : s ≠ fbW := by
  intro e
  rw [e] at h
  exact absurd h (by decide +kernel)
/-- both boxes of GradeNames; the second one since the world B -/
structure NB (q r : Nat) (W B : World) (nm : ByteArray) (x0 x1 xl : Value) (cs : Array Value) (w : World) : Prop where
  pb : PB q W nm x0 x1 xl w
  qr : q < r
  row : w.heap[r]? = some (.cells cs 26)
  up : Below r B w
section
variable {q r : Nat} {W B w w' : World} {nm : ByteArray} {x0 x1 xl : Value} {cs : Array Value}
theorem NB.lt (h : NB q r W B nm x0 x1 xl cs w) : r < w.heap.size := (Array.getElem?_eq_some_iff.1 h.row).1
theorem NB.below (h : NB q r W B nm x0 x1 xl cs w) (hb : Below w.heap.size w w') : NB q r W B nm x0 x1 xl cs w' :=
  ⟨h.pb.below hb, h.qr, (hb.block _ h.lt).trans h.row, h.up.trans (hb.mono (Nat.le_of_lt h.lt))⟩
theorem NB.setR (h : NB q r W B nm x0 x1 xl cs w) (ds : Array Value) : NB q r W B nm x0 x1 xl ds (w.setRow r ds) := by
  have := h.qr
  refine ⟨⟨below_setRow h.pb.old _ (by omega) _, by rw [size_setRow]; exact h.pb.lt, (setRow_other _ _ _ _ (by omega)).trans h.pb.row⟩, h.qr, setRow_heap _ _ _ _ _ _ h.row, below_setRow h.up _ (Nat.le_refl _) _⟩
end
set_option maxRecDepth 100000 in
set_option maxHeartbeats 8000000 in
theorem names_walk {ea : Int → Addr} (v : Value) (p : Pt) (name word : ByteArray) (more : Int) (W : World) (hE : Errs ea W) (hR : RdP W v p) (hz : p.nm.size ≤ 140737488355328) (hn1 : name.size ≤ 140737488355328) (hwd : word.size ≤ 140737488355328) (hm1 : -9223372036854775808 ≤ more) (hm2 : more < 9223372036854775808) :
    Calls Tryd.prog 6 #[v, .string name, .string word, .int .i64 more] W fun e w' => e = .returned (.bool true) ∧ Below W.heap.size W w' := by
  have hrd := hR
  have HKN : Hid (∀ W, Errs ea W → _) := known_any plevels_any (find_kk pfindA) (find_nx1 pfindA)
  obtain ⟨v0, v1, vl, rfl, h0, h1, hl⟩ := hR
  obtain ⟨a0, p0, rfl, -, -, -⟩ := id h0
  obtain ⟨a1, p1, rfl, -, -, -⟩ := id h1
  obtain ⟨al, cl, rfl, -, -, -⟩ := id hl
  have hrn : RdP W (.agg #[.string name, .slice a0 p.b0.length p0, .slice a1 p.b1.length p1, .slice al p.ln.length cl]) ⟨name, p.b0, p.b1, p.ln⟩ := ⟨_, _, _, rfl, h0, h1, hl⟩
  have hsn := sim_lv (sim_nm p name) (chk_nm p name) more
  have hst := pb_start W p.nm (.slice a0 p.b0.length p0) (.slice a1 p.b1.length p1) (.slice al p.ln.length cl)
  obtain ⟨q, hq⟩ : ∃ q, W.heap.size = q := ⟨_, rfl⟩
  obtain ⟨nm, hnm⟩ : ∃ nm, p.nm = nm := ⟨_, rfl⟩
  obtain ⟨n0, hn0⟩ : ∃ n0, p.b0.length = n0 := ⟨_, rfl⟩
  obtain ⟨n1, hn1'⟩ : ∃ n1, p.b1.length = n1 := ⟨_, rfl⟩
  obtain ⟨L, hLn⟩ : ∃ L, p.ln.length = L := ⟨_, rfl⟩
  simp only [hq, hnm, hn0, hn1', hLn] at hst hrd hrn hz ⊢
  obtain ⟨W1, hW1⟩ : ∃ W1, W.alloc (.cells #[.string nm, (.slice a0 n0 p0), (.slice a1 n1 p1), (.slice al L cl)] 26) = W1 := ⟨_, rfl⟩
  rw [hW1] at hst
  have HP : Hid (PB q W nm (.slice a0 n0 p0) (.slice a1 n1 p1) (.slice al L cl) W1) := hst
  have HRD : Hid (∀ Y, Below q W Y → RdP Y (.agg #[.string nm, (.slice a0 n0 p0), (.slice a1 n1 p1), (.slice al L cl)]) p) := fun Y hY => hrd.below (by rw [hq]; exact hY)
  have HRN : Hid (∀ Y, Below q W Y → RdP Y (.agg #[.string name, (.slice a0 n0 p0), (.slice a1 n1 p1), (.slice al L cl)]) ⟨name, p.b0, p.b1, p.ln⟩) := fun Y hY => hrn.below (by rw [hq]; exact hY)
  have HER : Hid (∀ Y, Below q W Y → Errs ea Y) := fun Y hY => hE.below (by rw [hq]; exact hY)
  have HSZ : Hid (p.nm.size ≤ 140737488355328 ∧ word.size ≤ 140737488355328) := ⟨by rw [hnm]; exact hz, hwd⟩
  obtain ⟨c, hc⟩ : ∃ c, lvE p more = c := ⟨_, rfl⟩
  obtain ⟨gs, hgs⟩ : ∃ gs, lvL p more = gs := ⟨_, rfl⟩
  have hc6 := lvE_in p more
  rw [hc] at hc6
  have hgl : gs.length ≤ 140737488355328 := by
    rw [← hgs]
    by_cases h : lvE p more = 0
    · have := (lv_small h).1; omega
    · unfold lvL; rw [if_neg h]; simp
  have HL1 : Hid (∀ Y, Below q W Y → Calls Tryd.prog 11 #[.agg #[.string nm, (.slice a0 n0 p0), (.slice a1 n1 p1), (.slice al L cl)], .int .i64 more] Y fun e w' => ∃ u, e = .returned (.tuple #[u, EV ea c]) ∧ RdG w' u gs ∧ Below Y.heap.size Y w') := fun Y hY => by
    have := plevels_any (ea := ea) _ p Y more (HER.out Y hY) (HRD.out Y hY) hm1 hm2
    rw [hc, hgs] at this
    exact this.mono fun e w' ⟨u, he, ho, hb⟩ => ⟨u, he, own_rd ho hgl, hb⟩
  have HL2 : Hid (∀ Y v' p', RdP Y v' p' → lvE p' more = c → lvL p' more = gs → Errs ea Y → Calls Tryd.prog 11 #[v', .int .i64 more] Y fun e w' => ∃ u, e = .returned (.tuple #[u, EV ea c]) ∧ RdG w' u gs ∧ Below Y.heap.size Y w') := fun Y v' p' hr he hl hE' => by
    have := plevels_any (ea := ea) v' p' Y more hE' hr hm1 hm2
    rw [he, hl] at this
    exact this.mono fun e w' ⟨u, he, ho, hb⟩ => ⟨u, he, own_rd ho hgl, hb⟩
  rw [hc, hgs] at hsn
  have HSN : Hid (lvE ⟨name, p.b0, p.b1, p.ln⟩ more = c ∧ lvL ⟨name, p.b0, p.b1, p.ln⟩ more = gs) := hsn
  have HCD : Hid (∀ Y, Below q W Y → Calls Tryd.prog 13 #[EV ea c] Y fun e w' => e = .returned (.int .i64 c) ∧ w' = Y) := fun Y hY => code_any (HER.out Y hY) c hc6
  have HCG : Hid (lvE p more = c ∧ lvL p more = gs) := ⟨hc, hgs⟩
  have c0 := hst.c0
  have c1 := hst.c1
  have c2 := hst.c2
  have c3 := hst.c3
  have CLo := long_any _ p W1 (HRD.out W1 hst.old)
  clear hst hrd hE h0 h1 hl hm1 hm2 hn0 hn1' hLn hrn hsn hz hwd hn1 hc6 hgl hc hgs hnm
  rcases e1 : lng p with _ | _
  case true =>
    rw [e1] at CLo
    clear e1
    go_enter Tryd.func6, Tryd.ntmps6
    go_wp2_with (go_at_call 9; refine Calls.mono CLo ?_; rintro e w2 ⟨rfl, hb⟩; have HB2 : Hid (PB q W nm (.slice a0 n0 p0) (.slice a1 n1 p1) (.slice al L cl) w2) := HP.out.below hb; clear hb)
    go_ret
    exact ⟨rfl, HB2.out.old⟩
  rw [e1] at CLo
  clear e1
  go_enter Tryd.func6, Tryd.ntmps6
  go_upto_region 4 with (first
    | (go_at_call 9; refine Calls.mono CLo ?_; clear CLo; rintro e w2 ⟨rfl, hb⟩; have HB2 : Hid (PB q W nm (.slice a0 n0 p0) (.slice a1 n1 p1) (.slice al L cl) w2) := HP.out.below hb; clear hb c0 c1 c2 c3; have c0 := HB2.out.c0; have c1 := HB2.out.c1; have c2 := HB2.out.c2; have c3 := HB2.out.c3; have CL := HL1.out w2 HB2.out.old)
    | (go_at_call 11; refine Calls.mono CL ?_; clear CL; rintro e w3 ⟨u1, rfl, hg, hb⟩; have HB3 : Hid (PB q W nm (.slice a0 n0 p0) (.slice a1 n1 p1) (.slice al L cl) w3) := HB2.out.below hb; have HG3 : Hid (RdG w3 u1 gs) := hg; clear hb hg c0 c1 c2 c3))
  have c0 := HB3.out.c0
  have c1 := HB3.out.c1
  have c2 := HB3.out.c2
  have c3 := HB3.out.c3
  go_upto_region 6 with (fail)
  obtain ⟨r, hr⟩ : ∃ r, w3.heap.size = r := ⟨_, rfl⟩
  have hb4 : Below w3.heap.size w3 (w3.alloc (.cells #[.string name, .slice a0 n0 p0, .slice a1 n1 p1, .slice al L cl] 26)) := (Below.refl _ _).alloc (Nat.le_refl _) _
  have hnb : NB q r W w3 nm (.slice a0 n0 p0) (.slice a1 n1 p1) (.slice al L cl) #[.string name, .slice a0 n0 p0, .slice a1 n1 p1, .slice al L cl] (w3.alloc (.cells #[.string name, .slice a0 n0 p0, .slice a1 n1 p1, .slice al L cl] 26)) := ⟨HB3.out.below hb4, by rw [← hr]; exact HB3.out.lt, by rw [← hr]; exact heap_alloc_new _ _, by rw [← hr]; exact hb4⟩
  obtain ⟨W4, hW4⟩ : ∃ W4, w3.alloc (.cells #[.string name, .slice a0 n0 p0, .slice a1 n1 p1, .slice al L cl] 26) = W4 := ⟨_, rfl⟩
  rw [hW4] at hnb
  simp only [hW4, hr]
  have HN4 : Hid (NB q r W w3 nm (.slice a0 n0 p0) (.slice a1 n1 p1) (.slice al L cl) #[.string name, .slice a0 n0 p0, .slice a1 n1 p1, .slice al L cl] W4) := hnb
  have HG : Hid (∀ Y, Below r w3 Y → RdG Y u1 gs) := fun Y hY => HG3.out.below (by rw [hr]; exact hY)
  clear c0 c1 c2 c3 hb4 hnb hW4 hr HB3 HG3 HB2
  have c0 : W4.cell? ⟨r, 0, none⟩ = some (.string name) := by rw [cell_of_row _ _ _ _ _ _ HN4.out.row]; rfl
  have c1 : W4.cell? ⟨r, 1, none⟩ = some (.slice a0 n0 p0) := by rw [cell_of_row _ _ _ _ _ _ HN4.out.row]; rfl
  have c2 : W4.cell? ⟨r, 2, none⟩ = some (.slice a1 n1 p1) := by rw [cell_of_row _ _ _ _ _ _ HN4.out.row]; rfl
  have c3 : W4.cell? ⟨r, 3, none⟩ = some (.slice al L cl) := by rw [cell_of_row _ _ _ _ _ _ HN4.out.row]; rfl
  have CL := HL2.out W4 _ _ (HRN.out W4 HN4.out.pb.old) HSN.out.1 HSN.out.2 (HER.out W4 HN4.out.pb.old)
  have hcc : (c == c) = true := by simp
  go_upto_region 9 with (first
    | (go_at_call 11; refine Calls.mono CL ?_; clear CL; rintro e w5 ⟨u2, rfl, hg, hb⟩; have HN5 : Hid (NB q r W w3 nm (.slice a0 n0 p0) (.slice a1 n1 p1) (.slice al L cl) #[.string name, .slice a0 n0 p0, .slice a1 n1 p1, .slice al L cl] w5) := HN4.out.below hb; have HU5 : Hid (RdG w5 u2 gs) := hg; have CC := HCD.out w5 HN5.out.pb.old; have CG := grades_any (HG.out w5 HN5.out.up) hg; clear hb hg c0 c1 c2 c3)
    | (go_at_call 13; refine Calls.mono CC ?_; rintro e w6 ⟨rfl, hw6⟩; have hw7 := hw6.symm; subst hw7)
    | (go_at_call 14; refine Calls.mono CG ?_; clear CG; rintro e w6 ⟨rfl, hb⟩; have HN6 : Hid (NB q r W w3 nm (.slice a0 n0 p0) (.slice a1 n1 p1) (.slice al L cl) #[.string name, .slice a0 n0 p0, .slice a1 n1 p1, .slice al L cl] w6) := HN5.out.below hb; clear hb))
  clear CC
  have CK := HKN.out w6 (HER.out w6 HN6.out.pb.old)
  have HWS : Hid (W.heap.size = q) := hq
  have sP := strP17 (word.extract 0 3)
  obtain ⟨nw, hnw⟩ : ∃ nw, word.size = nw := ⟨_, rfl⟩
  by_cases h3 : nw < 3
  · have t0 : (nw : Int) < 3 := by omega
    have t1 : decide ((nw : Int) < 3) = true := decide_eq_true t0
    clear sP h3
    go_wp2_with (go_at_call 16; refine Calls.mono CK ?_; clear CK; rintro e w9 ⟨rfl, hb⟩; have HP9 : Hid (Below q W w9) := HN6.out.pb.old.trans (hb.mono (by have := HN6.out.pb.lt; omega)); clear hb)
    go_ret
    exact ⟨rfl, HP9.out⟩
  have t0 : ¬ (nw : Int) < 3 := by omega
  have t1 : decide ((nw : Int) < 3) = false := decide_eq_false t0
  have t2 : (3 : Int) ≤ (nw : Int) := by omega
  by_cases hp : word.extract 0 3 = ⟨#[112, 115, 107]⟩
  case neg =>
    rw [decide_eq_false hp] at sP
    clear h3 hp
    go_wp2_with (go_at_call 16; refine Calls.mono CK ?_; clear CK; rintro e w9 ⟨rfl, hb⟩; have HP9 : Hid (Below q W w9) := HN6.out.pb.old.trans (hb.mono (by have := HN6.out.pb.lt; omega)); clear hb)
    go_ret
    exact ⟨rfl, HP9.out⟩
  rw [decide_eq_true hp] at sP
  have HFB : Hid (word ≠ fbW) := psk_nfb hp
  clear CK h3 hp
  go_upto_region 11 with (fail)
  clear sP t0 t1 t2
  have c0 := HN6.out.pb.c0
  have c1 := HN6.out.pb.c1
  have c2 := HN6.out.pb.c2
  have c3 := HN6.out.pb.c3
  have hbm : Below w6.heap.size w6 (w6.alloc (.cells #[.string word] 9)) := (Below.refl _ _).alloc (Nat.le_refl _) _
  have hNm := HN6.out.below hbm
  have hSm : RdS (w6.alloc (.cells #[.string word] 9)) (.slice (some ⟨w6.heap.size, 0, none⟩) 1 1) [word] := ⟨_, _, rfl, fun j hj => ⟨w6.heap.size, 0, rfl, by
    obtain rfl : j = 0 := by simpa using hj
    rw [cell_of_row _ _ _ _ _ _ (heap_alloc_new _ _)]; rfl⟩⟩
  have CM := modify_any' (ea := ea) _ _ p [word] _ (HER.out _ hNm.pb.old) (HRD.out _ hNm.pb.old) hSm HSZ.out.1 (by simp) (fun x hx => by rw [List.mem_singleton.1 hx]; exact HSZ.out.2) (fun a n c h => by injection h with h1 h2 h3; omega)
  unfold MoP at CM
  obtain ⟨P2, hP2⟩ : ∃ P2, mdf p [word] = P2 := ⟨_, rfl⟩
  rw [hP2] at CM
  obtain ⟨q2, e2⟩ := P2
  simp only at CM
  have HMD : Hid (mdf p [word] = (q2, e2)) := hP2
  have HNm : Hid (NB q r W w3 nm (.slice a0 n0 p0) (.slice a1 n1 p1) (.slice al L cl) #[.string name, .slice a0 n0 p0, .slice a1 n1 p1, .slice al L cl] (w6.alloc (.cells #[.string word] 9))) := hNm
  clear hbm hNm hSm hP2
  go_upto_region 12 with (first
    | (go_at_call 20; go_loud (refine Calls.mono CM ?_; clear CM; rintro e w7 ⟨hb, y0, y1, yl, rfl, hf⟩; have hrd7 := hf.rd; have HF7 : Hid (FtP (fun b => (w6.alloc (.cells #[.string word] 9)).heap.size ≤ b ∧ b < w7.heap.size) w7 y0 y1 yl q2) := hf; have HN7 : Hid (NB q r W w3 nm (.slice a0 n0 p0) (.slice a1 n1 p1) (.slice al L cl) #[.string name, .slice a0 n0 p0, .slice a1 n1 p1, .slice al L cl] w7) := HNm.out.below hb; have HR7 : Hid (RdP w7 (.agg #[.string q2.nm, y0, y1, yl]) q2) := hrd7; obtain ⟨_, _, _, hag, ⟨b0, d0, rfl, -, -, -⟩, ⟨b1, d1, rfl, -, -, -⟩, ⟨bl, dl, rfl, -, -, -⟩⟩ := hrd7; injection hag with hag; injection hag with hag; injection hag with _ hag; injection hag with hag0 hag; injection hag with hag1 hag; injection hag with hagl hag; subst hag0 hag1 hagl; clear hag hf hb c0 c1 c2 c3))
    | (with_reducible refine at_list ?_; refine wpList_store_row rfl 26 (.tmp 11) (.tmp 57) rfl r #[.string q2.nm, .slice b0 q2.b0.length d0, .slice b1 q2.b1.length d1, .slice bl q2.ln.length dl] rfl rfl 26 #[.string name, .slice a0 n0 p0, .slice a1 n1 p1, .slice al L cl] HN7.out.row (ipR _ _ _ _) rfl (by simp [Value.oneCell']) ?_))
  have hr7 : RdP (w7.setRow r #[.string q2.nm, .slice b0 q2.b0.length d0, .slice b1 q2.b1.length d1, .slice bl q2.ln.length dl]) (.agg #[.string q2.nm, .slice b0 q2.b0.length d0, .slice b1 q2.b1.length d1, .slice bl q2.ln.length dl]) q2 :=
    (HF7.out.keep (fun b hb => setRow_other _ _ _ _ (by have := HNm.out.lt; have := hb.1; omega))).rd
  have HN8 : Hid (NB q r W w3 nm (.slice a0 n0 p0) (.slice a1 n1 p1) (.slice al L cl) #[.string q2.nm, .slice b0 q2.b0.length d0, .slice b1 q2.b1.length d1, .slice bl q2.ln.length dl] (w7.setRow r #[.string q2.nm, .slice b0 q2.b0.length d0, .slice b1 q2.b1.length d1, .slice bl q2.ln.length dl])) := HN7.out.setR _
  obtain ⟨W8, hW8⟩ : ∃ W8, w7.setRow r #[.string q2.nm, .slice b0 q2.b0.length d0, .slice b1 q2.b1.length d1, .slice bl q2.ln.length dl] = W8 := ⟨_, rfl⟩
  rw [hW8] at hr7 HN8
  simp only [hW8]
  have HR8 : Hid (RdP W8 (.agg #[.string q2.nm, .slice b0 q2.b0.length d0, .slice b1 q2.b1.length d1, .slice bl q2.ln.length dl]) q2) := hr7
  have CK := HKN.out W8 (HER.out W8 HN8.out.pb.old)
  clear hr7 hW8 HF7 HN7 HNm HR7
  by_cases he : e2 = 0
  case neg =>
    have e0 : EV ea e2 = .iface 173 (.pointer (some (ea e2))) := by unfold EV; rw [if_neg he]
    simp only [e0]
    clear e0 he
    go_wp2_with (go_at_call 16; refine Calls.mono CK ?_; clear CK; rintro e w9 ⟨rfl, hb⟩; have HP9 : Hid (Below q W w9) := HN8.out.pb.old.trans (hb.mono (by have := HN8.out.pb.lt; omega)); clear hb)
    go_ret
    exact ⟨rfl, HP9.out⟩
  subst he
  have hsp := sim_psk HFB.out HMD.out
  have hs2 := sim_lv hsp.1 (hsp.2.2.trans hsp.2.1.symm) more
  rw [HCG.out.1, HCG.out.2] at hs2
  have CL := HL2.out W8 _ _ HR8.out hs2.1 hs2.2 (HER.out W8 HN8.out.pb.old)
  have ez : EV ea 0 = .nilIface := rfl
  simp only [ez]
  clear ez
  have c0 : W8.cell? ⟨r, 0, none⟩ = some (.string q2.nm) := by rw [cell_of_row _ _ _ _ _ _ HN8.out.row]; rfl
  have c1 : W8.cell? ⟨r, 1, none⟩ = some (.slice b0 q2.b0.length d0) := by rw [cell_of_row _ _ _ _ _ _ HN8.out.row]; rfl
  have c2 : W8.cell? ⟨r, 2, none⟩ = some (.slice b1 q2.b1.length d1) := by rw [cell_of_row _ _ _ _ _ _ HN8.out.row]; rfl
  have c3 : W8.cell? ⟨r, 3, none⟩ = some (.slice bl q2.ln.length dl) := by rw [cell_of_row _ _ _ _ _ _ HN8.out.row]; rfl
  clear hsp hs2 CK
  go_wp2_with (first
    | (go_at_call 11; refine Calls.mono CL ?_; clear CL; rintro e w9 ⟨u3, rfl, hg, hb⟩; have HN9 : Hid (NB q r W w3 nm (.slice a0 n0 p0) (.slice a1 n1 p1) (.slice al L cl) #[.string q2.nm, .slice b0 q2.b0.length d0, .slice b1 q2.b1.length d1, .slice bl q2.ln.length dl] w9) := HN8.out.below hb; have CC := HCD.out w9 HN9.out.pb.old; have CG := grades_any (HG.out w9 HN9.out.up) hg; clear hb hg c0 c1 c2 c3)
    | (go_at_call 13; refine Calls.mono CC ?_; rintro e w10 ⟨rfl, hw6⟩; have hw7 := hw6.symm; subst hw7)
    | (go_at_call 14; refine Calls.mono CG ?_; clear CG; rintro e w10 ⟨rfl, hb⟩; have HN10 : Hid (NB q r W w3 nm (.slice a0 n0 p0) (.slice a1 n1 p1) (.slice al L cl) #[.string q2.nm, .slice b0 q2.b0.length d0, .slice b1 q2.b1.length d1, .slice bl q2.ln.length dl] w10) := HN9.out.below hb; have CK := HKN.out w10 (HER.out w10 HN10.out.pb.old); clear hb)
    | (go_at_call 16; refine Calls.mono CK ?_; clear CK; rintro e w11 ⟨rfl, hb⟩; have HP11 : Hid (Below q W w11) := HN10.out.pb.old.trans (hb.mono (by have := HN10.out.pb.lt; omega)); clear hb))
  go_ret
  exact ⟨by simp, HP11.out⟩
end Go.Proofs.YtjhleocpipmklaaDoor
