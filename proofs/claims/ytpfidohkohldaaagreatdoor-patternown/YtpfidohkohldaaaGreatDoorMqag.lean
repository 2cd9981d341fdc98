import Derived.Test.YtpfidohkohldaaaGreatDoorMqaf
import Derived.Test.YtpfidohkohldaaaGreatDoorMqae
/- texts there and back, az data: patterns -/
namespace Go.Pat
theorem isTok_t7 {l : List Int} (h : l.all isTok = true) : ∀ t ∈ l, T7 t := fun t ht => by
  have := List.all_eq_true.1 h t ht
  simp [isTok] at this
  exact ⟨by omega, by omega⟩
theorem ahd_t7 {l : List Int} (h : ahd l = true) : ∀ t ∈ l, T7 t := by
  match l, h with
  | [], _ => intro t ht; simp at ht
  | [a], h =>
    intro t ht
    rw [List.mem_singleton.1 ht]
    simp [ahd] at h
    unfold T7
    omega
  | [a, b], h =>
    intro t ht
    simp [ahd] at h
    unfold T7
    simp at ht
    omega
  | _ :: _ :: _ :: _, h => simp [ahd] at h
def dR (b0 b1 : List Int) : List ByteArray := if 0 < b0.length + b1.length then [dotR] else []
def hd (nm : ByteArray) : ByteArray := nm ++ ⟨#[58]⟩
/-- a pattern's rows -/
def rP (p : Pt) : List ByteArray := hd p.nm :: (bR 0 p.b0 ++ bR 1 p.b1 ++ dR p.b0 p.b1 ++ p.ln.map fun x => rt x.1 x.2)
theorem bef_toL (s : ByteArray) (A : List ByteArray) (h : toL s = JL (A.map toL)) (side : Int) (l : List Int) : toL (bef s side l) = JL ((A ++ bR side l).map toL) := by
  unfold bef bR
  split
  · rw [List.append_nil]; exact h
  · rw [toL_app, h, row_toL, List.map_append, JL_app]; rfl
theorem txH_toL (p : Pt) : toL (txH p) = JL ((hd p.nm :: (bR 0 p.b0 ++ bR 1 p.b1 ++ dR p.b0 p.b1)).map toL) := by
  have h0 : toL (p.nm ++ ⟨#[58, 10]⟩) = JL ([hd p.nm].map toL) := by
    rw [toL_app]
    simp only [List.map_cons, List.map_nil, JL, hd, toL_app, List.append_assoc]
    rfl
  have h2 := bef_toL _ _ (bef_toL _ _ h0 0 p.b0) 1 p.b1
  unfold txH dots dR
  split
  · rw [toL_app, h2]
    simp only [List.cons_append, List.nil_append]
    rw [List.map_cons, List.map_cons, List.map_append, List.map_append, List.map_append, JL, JL, JL_app (List.map toL _ ++ _)]
    simp [JL, dotR]
    rfl
  · rw [h2]
    simp
theorem txN_toL (p : Pt) : ∀ i, i ≤ p.ln.length → toL (txN p i) = JL ((hd p.nm :: (bR 0 p.b0 ++ bR 1 p.b1 ++ dR p.b0 p.b1 ++ (p.ln.take i).map fun x => rt x.1 x.2)).map toL)
  | 0, _ => by
    rw [txN, txH_toL]
    simp
  | i + 1, hi => by
    have ih := txN_toL p i (by omega)
    have ht : p.ln.take (i + 1) = p.ln.take i ++ [p.ln.getD i (0, [])] := by
      rw [List.take_add_one, List.getElem?_eq_getElem (by omega), List.getD_eq_getElem?_getD, List.getElem?_eq_getElem (by omega)]
      rfl
    have e : ∀ (X M : List ByteArray) (r : ByteArray), JL ((X ++ M).map toL) ++ (toL r ++ [10]) = JL ((X ++ (M ++ [r])).map toL) := fun X M r => by
      rw [← List.append_assoc X M [r], List.map_append (l₁ := X ++ M), JL_app]
      rfl
    rw [txN, toL_app, ih, row_toL, ht, List.map_append]
    exact e (hd p.nm :: (bR 0 p.b0 ++ bR 1 p.b1 ++ dR p.b0 p.b1)) _ _
theorem txt_toL (p : Pt) : toL (txt p) = JL ((rP p).map toL) := by
  unfold txt rP
  rw [txN_toL p _ (Nat.le_refl _), List.take_length]
theorem rt_dot (side : Int) (l : List Int) : rt side l ≠ dotR := by
  intro e
  have := rt_toL side l
  rw [e] at this
  have h := congrArg (fun l => l[2]?) this
  unfold hdr at h
  split at h <;> simp [dotR, toL] at h
theorem frmL_skip : ∀ (A R : List ByteArray) (i : Nat), (∀ a ∈ A, a ≠ dotR) → frmL i (A ++ R) = frmL (i + A.length) R
  | [], R, i, _ => rfl
  | a :: A, R, i, h => by
    rw [List.cons_append, frmL, if_neg (h a (by simp)), frmL_skip A R (i + 1) (fun x hx => h x (by simp [hx]))]
    simp [Nat.add_assoc, Nat.add_comm 1]
theorem frmL_none : ∀ (A : List ByteArray) (i : Nat), (∀ a ∈ A, a ≠ dotR) → frmL i A = 1
  | [], _, _ => rfl
  | a :: A, i, h => by rw [frmL, if_neg (h a (by simp)), frmL_none A (i + 1) (fun x hx => h x (by simp [hx]))]
theorem frmL_bck : ∀ (A : List ByteArray) (i : Nat), (frmL i A = 1 ∧ ∀ a ∈ A, a ≠ dotR) ∨ ∃ B C, A = B ++ dotR :: C ∧ (∀ b ∈ B, b ≠ dotR) ∧ frmL i A = i + B.length + 1
  | [], _ => .inl ⟨rfl, fun a h => by simp at h⟩
  | a :: A, i => by
    by_cases ha : a = dotR
    · exact .inr ⟨[], A, by rw [ha]; rfl, fun b h => by simp at h, by rw [frmL, if_pos ha]; rfl⟩
    · rcases frmL_bck A (i + 1) with ⟨h1, h2⟩ | ⟨B, C, h1, h2, h3⟩
      · refine .inl ⟨by rw [frmL, if_neg ha]; exact h1, fun x hx => ?_⟩
        rcases List.mem_cons.1 hx with rfl | hx
        · exact ha
        · exact h2 x hx
      · refine .inr ⟨a :: B, C, by rw [h1]; rfl, fun x hx => ?_, by rw [frmL, if_neg ha, h3]; simp; omega⟩
        rcases List.mem_cons.1 hx with rfl | hx
        · exact ha
        · exact h2 x hx
theorem bR_dot (side : Int) (l : List Int) : ∀ a ∈ bR side l, a ≠ dotR := by
  intro a ha
  unfold bR at ha
  split at ha
  · simp at ha
  · rw [List.mem_singleton.1 ha]; exact rt_dot _ _
theorem hd_ok {nm : ByteArray} (h : isNm nm = true) : hdOk (hd nm) = true ∧ (hd nm).extract 0 ((hd nm).size - 1) = nm := by
  have e : toL (hd nm) = toL nm ++ [58] := toL_app _ _
  have hs : (hd nm).size = nm.size + 1 := by rw [← toL_len, e]; simp
  have hx : (hd nm).extract 0 ((hd nm).size - 1) = nm := by
    rw [hs]
    exact (ext_head e).1
  have hb : byt (hd nm) ((hd nm).size - 1) = 58 := by
    unfold byt
    rw [show (hd nm).data.toList = toL (hd nm) from rfl, e, hs, Nat.add_sub_cancel, ← toL_len]
    simp [List.getD]
  refine ⟨?_, hx⟩
  unfold hdOk
  rw [hx, hb, h, hs]
  simp
theorem isNm_nl {nm : ByteArray} (h : isNm nm = true) : NL (toL (hd nm)) := by
  have e : toL (hd nm) = toL nm ++ [58] := toL_app _ _
  rw [e]
  intro x hx
  rcases List.mem_append.1 hx with hx | hx
  · unfold isNm at h
    simp only [Bool.and_eq_true] at h
    have := List.all_eq_true.1 h.1 x hx
    intro h10
    unfold nmB at this
    rw [h10] at this
    simp at this
  · rw [List.mem_singleton.1 hx]; decide
theorem hd_bck {h : ByteArray} (hh : hdOk h = true) : isNm (h.extract 0 (h.size - 1)) = true ∧ hd (h.extract 0 (h.size - 1)) = h := by
  unfold hdOk at hh
  simp only [Bool.and_eq_true, decide_eq_true_eq] at hh
  refine ⟨hh.2, toL_inj ?_⟩
  have hlt : h.size - 1 < (toL h).length := by rw [toL_len]; omega
  rw [show toL (hd (h.extract 0 (h.size - 1))) = toL (h.extract 0 (h.size - 1)) ++ [58] from toL_app _ _, toL_ext, List.drop_zero]
  have e58 : (toL h)[h.size - 1]? = some 58 := by
    rw [List.getElem?_eq_getElem hlt]
    have : ((toL h).getD (h.size - 1) 0).toNat = 58 := hh.1.2
    rw [List.getD_eq_getElem?_getD, List.getElem?_eq_getElem hlt] at this
    exact congrArg some (UInt8.toNat_inj.1 this)
  have : (toL h).take (h.size - 1 + 1) = (toL h).take (h.size - 1) ++ [58] := by rw [List.take_add_one, e58]; rfl
  rw [← this, List.take_of_length_le (by rw [toL_len]; omega)]
theorem rows_dots (h : ByteArray) (X Ls : List ByteArray) (hX : ∀ a ∈ X, a ≠ dotR) : frm (h :: (X ++ [dotR] ++ Ls)) = X.length + 2 ∧ ((h :: (X ++ [dotR] ++ Ls)).take (X.length + 1)).drop 1 = X ∧ (h :: (X ++ [dotR] ++ Ls)).drop (X.length + 2) = Ls := by
  refine ⟨?_, ?_, ?_⟩
  · unfold frm
    rw [List.drop_succ_cons, List.drop_zero, List.append_assoc, frmL_skip _ _ _ hX, List.singleton_append, frmL, if_pos rfl]
    omega
  · rw [List.take_succ_cons, List.drop_succ_cons, List.drop_zero, List.append_assoc, List.take_left]
  · rw [List.drop_succ_cons, show X.length + 1 = (X ++ [dotR]).length by simp, List.drop_left]
theorem rows_plain (h : ByteArray) (Ls : List ByteArray) (hL : ∀ a ∈ Ls, a ≠ dotR) : frm (h :: Ls) = 1 := by
  unfold frm
  rw [List.drop_succ_cons, List.drop_zero, frmL_none _ _ hL]
theorem bR_len (side : Int) (l : List Int) : 0 < (bR side l).length ↔ 0 < l.length := by
  unfold bR
  split
  · rename_i h; exact ⟨fun k => absurd k (by simp), fun k => by omega⟩
  · rename_i h; exact ⟨fun _ => by omega, fun _ => by simp⟩
/-- Parse of what Print writes -/
theorem prs_prn {p : Pt} (h : (prn p).2 = 0) : prs (prn p).1 = (p, 0) ∧ (prn p).1.size ≤ 4096 := by
  unfold prn at h ⊢
  by_cases hc : chk p = 0
  case neg => rw [if_pos hc] at h; exact absurd h hc
  rw [if_neg (by simpa using hc)] at h ⊢
  split at h
  · simp at h
  rename_i hn
  rw [if_neg hn]
  have hnm : isNm p.nm = true := by
    cases e : isNm p.nm with
    | true => rfl
    | false => exact absurd (.inr e) hn
  split at h
  · simp at h
  rename_i hz
  rw [if_neg hz]
  refine ⟨?_, Nat.not_lt.1 hz⟩
  have hsh := chk_shaped hc
  have hall := (shaped_all hsh).2.2.2.2
  have hT : ∀ x ∈ p.ln, (x.1 = 0 ∨ x.1 = 1) ∧ x.2 ≠ [] ∧ ∀ t ∈ x.2, T7 t := fun x hx => ⟨(hall x hx).1, (hall x hx).2.1, isTok_t7 (hall x hx).2.2.2⟩
  have hb : (∀ t ∈ p.b0, T7 t) ∧ ∀ t ∈ p.b1, T7 t := by
    unfold shaped at hsh
    simp only [Bool.and_eq_true] at hsh
    exact ⟨ahd_t7 hsh.1.1.1, ahd_t7 hsh.1.1.2⟩
  have hbn : ∀ (side : Int) (l : List Int), (∀ t ∈ l, T7 t) → ∀ a ∈ bR side l, NL (toL a) := fun side l hl a ha => by
    unfold bR at ha
    split at ha
    · simp at ha
    · rw [List.mem_singleton.1 ha]; exact rt_nl _ _ hl
  have hr : rws (txt p) = (rP p, (txt p).size) := rws_join (txt_toL p) (fun a ha => by
    unfold rP at ha
    simp only [List.mem_cons, List.mem_append, List.mem_map] at ha
    rcases ha with rfl | ((ha | ha) | ha) | ⟨x, hx, rfl⟩
    · exact isNm_nl hnm
    · exact hbn _ _ hb.1 a ha
    · exact hbn _ _ hb.2 a ha
    · unfold dR at ha
      split at ha
      · rw [List.mem_singleton.1 ha]; unfold NL; decide
      · simp at ha
    · exact rt_nl _ _ (hT x hx).2.2)
  obtain ⟨k1, k2⟩ := hd_ok hnm
  have hlr : ∀ a ∈ p.ln.map (fun x => rt x.1 x.2), a ≠ dotR := fun a ha => by
    obtain ⟨x, _, rfl⟩ := List.mem_map.1 ha
    exact rt_dot _ _
  have hbr : ∀ a ∈ bR 0 p.b0 ++ bR 1 p.b1, a ≠ dotR := fun a ha => by
    rcases List.mem_append.1 ha with ha | ha
    · exact bR_dot _ _ a ha
    · exact bR_dot _ _ a ha
  have hg0 : (rP p).getD 0 ⟨#[]⟩ = hd p.nm := rfl
  have hd1 : (rP p).drop 1 = bR 0 p.b0 ++ bR 1 p.b1 ++ dR p.b0 p.b1 ++ p.ln.map fun x => rt x.1 x.2 := rfl
  have hp : (⟨p.nm, p.b0, p.b1, p.ln⟩ : Pt) = p := by cases p; rfl
  have main : bfr (((rP p).take (frm (rP p) - 1)).drop 1) [] [] = some (p.b0, p.b1) ∧ frm (rP p) ≠ 2 ∧ mls ((rP p).drop (frm (rP p))) = some p.ln := by
    by_cases hpos : 0 < p.b0.length + p.b1.length
    · have e : rP p = hd p.nm :: ((bR 0 p.b0 ++ bR 1 p.b1) ++ [dotR] ++ p.ln.map fun x => rt x.1 x.2) := by
        unfold rP dR
        rw [if_pos hpos]
      obtain ⟨h1, h2, h3⟩ := rows_dots (hd p.nm) (bR 0 p.b0 ++ bR 1 p.b1) (p.ln.map fun x => rt x.1 x.2) hbr
      rw [← e] at h1 h2 h3
      have hl : 0 < (bR 0 p.b0 ++ bR 1 p.b1).length := by
        rw [List.length_append]
        rcases Nat.lt_or_ge 0 p.b0.length with h | h
        · have := (bR_len 0 p.b0).2 h; omega
        · have := (bR_len 1 p.b1).2 (by omega); omega
      rw [h1]
      refine ⟨?_, by omega, ?_⟩
      · rw [show (bR 0 p.b0 ++ bR 1 p.b1).length + 2 - 1 = (bR 0 p.b0 ++ bR 1 p.b1).length + 1 from rfl, h2]
        exact bfr_fwd _ _ hb.1 hb.2
      · rw [h3]
        exact mls_fwd _ hT
    · have e0 : p.b0 = [] := List.length_eq_zero_iff.1 (by omega)
      have e1 : p.b1 = [] := List.length_eq_zero_iff.1 (by omega)
      have e : rP p = hd p.nm :: (p.ln.map fun x => rt x.1 x.2) := by
        unfold rP dR
        rw [if_neg hpos, e0, e1]
        rfl
      have h1 := rows_plain (hd p.nm) _ hlr
      rw [← e] at h1
      rw [h1]
      refine ⟨by rw [e0, e1]; rfl, by omega, ?_⟩
      rw [e, List.drop_succ_cons, List.drop_zero]
      exact mls_fwd _ hT
  unfold prs
  rw [if_neg hz, hr, if_neg (by simp [rP]), hg0, k1, if_neg (by simp), main.1]
  simp only
  rw [if_neg main.2.1, main.2.2]
  simp only
  rw [k2, hp, if_neg (by simpa using hc)]
/-- Print of what Parse reads -/
theorem prn_prs {t : ByteArray} (h : (prs t).2 = 0) : prn (prs t).1 = (t, 0) ∧ chk (prs t).1 = 0 := by
  unfold prs at h ⊢
  split at h
  · simp at h
  rename_i hz
  rw [if_neg hz]
  split at h
  · simp at h
  rename_i hr
  rw [if_neg hr]
  split at h
  · simp at h
  rename_i hh
  rw [if_neg hh]
  have hr2 : (rws t).2 = t.size ∧ (rws t).1.length ≠ 0 := by
    refine ⟨?_, fun e => hr (.inr e)⟩
    by_cases e : (rws t).2 = t.size
    · exact e
    · exact absurd (.inl e) hr
  obtain ⟨hj, hnl⟩ := rws_back hr2.1
  obtain ⟨R, hR⟩ : ∃ R, (rws t).1 = R := ⟨_, rfl⟩
  rw [hR] at h hh hr2 hj hnl ⊢
  cases R with
  | nil => exact absurd rfl hr2.2
  | cons r0 Rs =>
    have hg : (r0 :: Rs).getD 0 ⟨#[]⟩ = r0 := rfl
    rw [hg] at hh h ⊢
    obtain ⟨k1, k2⟩ := hd_bck (by simpa using hh)
    obtain ⟨nm, hnm⟩ : ∃ nm, r0.extract 0 (r0.size - 1) = nm := ⟨_, rfl⟩
    rw [hnm] at h k1 k2 ⊢
    cases hb : bfr (((r0 :: Rs).take (frm (r0 :: Rs) - 1)).drop 1) [] [] with
    | none => rw [hb] at h; simp at h
    | some x =>
      obtain ⟨b0, b1⟩ := x
      rw [hb] at h
      simp only at h ⊢
      split at h
      · simp at h
      rename_i h2
      rw [if_neg h2]
      cases hm : mls ((r0 :: Rs).drop (frm (r0 :: Rs))) with
      | none => rw [hm] at h; simp at h
      | some ls =>
        rw [hm] at h
        simp only at h ⊢
        by_cases hc : chk ⟨nm, b0, b1, ls⟩ = 0
        case neg => rw [if_pos hc] at h; exact absurd h hc
        rw [if_neg (by simpa using hc)]
        refine ⟨?_, hc⟩
        have hrow : r0 :: Rs = rP ⟨nm, b0, b1, ls⟩ := by
          rcases frmL_bck Rs 1 with ⟨e1, e2⟩ | ⟨B, C, e1, e2, e3⟩
          · have hf : frm (r0 :: Rs) = 1 := e1
            rw [hf] at hb hm
            have eb : (b0, b1) = (([] : List Int), ([] : List Int)) := by
              have : bfr (((r0 :: Rs).take (1 - 1)).drop 1) [] [] = some ([], []) := rfl
              rw [this] at hb
              injection hb with hb
              exact hb.symm
            injection eb with eb0 eb1
            subst eb0 eb1
            have := mls_bck _ _ hm
            rw [List.drop_succ_cons, List.drop_zero] at this
            rw [this, ← k2]
            rfl
          · subst e1
            obtain ⟨g1, g2, g3⟩ := rows_dots r0 B C e2
            have ea : B ++ dotR :: C = B ++ [dotR] ++ C := by simp
            rw [ea] at hb hm h2 ⊢
            rw [g1] at hb hm h2
            rw [show B.length + 2 - 1 = B.length + 1 from rfl, g2] at hb
            rw [g3] at hm
            have hB := bfr_bck _ _ _ hb
            have hC := mls_bck _ _ hm
            have hl : 0 < B.length := by omega
            have hpos : 0 < b0.length + b1.length := by
              rw [hB, List.length_append] at hl
              rcases Nat.lt_or_ge 0 (bR 0 b0).length with h | h
              · have := (bR_len 0 b0).1 h; omega
              · have := (bR_len 1 b1).1 (by omega); omega
            unfold rP dR
            simp only
            rw [if_pos hpos, ← hB, ← hC, k2]
        have ht : txt ⟨nm, b0, b1, ls⟩ = t := toL_inj (by rw [txt_toL, ← hrow, ← hj])
        have hsz : nm.size ≤ t.size := by
          have := congrArg ByteArray.size ht
          have e1 := toL_len t
          rw [hj, List.map_cons, JL, List.length_append] at e1
          have e2 : (toL r0).length = nm.size + 1 := by
            rw [← k2, show toL (hd nm) = toL nm ++ [58] from toL_app _ _, List.length_append, toL_len]
            rfl
          omega
        unfold prn
        rw [if_neg (by simpa using hc), if_neg (by simp only [k1]; simp; omega), ht, if_neg hz]
end Go.Pat
/- the program's rows beside the document's 'seen', as data -/
namespace Go.Proofs.YtpfidohkohldaaaGreatDoor
set_option linter.unusedSimpArgs false
set_option linter.unusedVariables false
set_option maxRecDepth 100000
open Go.Pat
/-- the nine marks of what is seen -/
def nr (x : Sn) : List Bool := [B x 0, B x 2, B x 1, B x 3, B x 7, B x 8, B x 9, B x 10, B x 11]
theorem nr_len (x : Sn) : (nr x).length = 9 := rfl
theorem twelve' {x : Sn} (h : x.length = 12) : ∃ a b c d e f g i j k l m, x = [a, b, c, d, e, f, g, i, j, k, l, m] := by
  match x, h with
  | [a, b, c, d, e, f, g, i, j, k, l, m], _ => exact ⟨a, b, c, d, e, f, g, i, j, k, l, m, rfl⟩
theorem sfr_sf (x : Sn) (s : Nat) (hs : s < 2) : sfr (nr x) s = sf x s := by
  unfold nr sf
  rcases (by omega : s = 0 ∨ s = 1) with rfl | rfl
  all_goals
    generalize B x 0 = a0
    generalize B x 1 = a1
    generalize B x 2 = a2
    generalize B x 3 = a3
    generalize B x 7 = a7
    generalize B x 8 = a8
    generalize B x 9 = a9
    generalize B x 10 = a10
    generalize B x 11 = a11
    revert a0 a1 a2 a3 a7 a8 a9 a10 a11
    decide
/-- a token's mark, by its sender; whether it may stand once; what it wants -/
def lf (t : Int) (s : Nat) : Nat := if t = 1 then 2 * s else if t = 2 then 2 * s + 1 else (t + 1).toNat
def onc (t : Int) : Bool := t != 7
def wnt (t : Int) : List Bool :=
  if t = 3 then [true, false, true, false, false, false, false, false, false] else if t = 4 then [true, false, false, true, false, false, false, false, false]
  else if t = 5 then [false, true, true, false, false, false, false, false, false] else if t = 6 then [false, true, false, true, false, false, false, false, false]
  else [false, false, false, false, false, false, false, false, false]
def ofd (r : List Bool) (s : Nat) (t : Int) : Int :=
  if (onc t && r.getD (lf t s) false) = true then 10 else if decide (List.zipWith and r (wnt t) = wnt t) = false then 11 else if t = 2 ∧ sfr r s = false then 12 else 0
theorem ofd_tk (x : Sn) (hx : x.length = 12) (s : Nat) (h2 : s < 2) (t : Int) (ht : T7 t) : ofd (nr x) s t = (tk x s t).2 ∧ ((tk x s t).2 = 0 → nr (tk x s t).1 = (nr x).set (lf t s) true) := by
  have e := sfr_sf x s h2
  unfold ofd
  rw [e]
  unfold tk
  generalize sf x s = q
  clear e
  obtain ⟨a, b, c, d, e, f, g, i, j, k, l, m, rfl⟩ := twelve' hx
  clear hx
  rcases (by omega : s = 0 ∨ s = 1) with rfl | rfl
  all_goals rcases t7_cases ht with rfl | rfl | rfl | rfl | rfl | rfl | rfl
  all_goals clear h2 ht
  all_goals
    simp only [onc, wnt, lf, nr, B, hs]
    simp
  all_goals (repeat' split)
  all_goals simp_all
end Go.Proofs.YtpfidohkohldaaaGreatDoor
