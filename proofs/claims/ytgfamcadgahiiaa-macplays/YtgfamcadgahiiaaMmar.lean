import Derived.Test.YtgfamcadgahiiaaMmal
import Derived.Test.YtgfamcadgahiiaaMmaj
namespace Go.Proofs.Ytgfamcadgahiiaa
set_option linter.unusedSimpArgs false
set_option linter.unusedVariables false
open Go.ChangeShapes Go.WideShapes Go.ChangeAt Go.RowKit Go.Pin Go.Prm
/-- events of another list come to a list of one's own -/
theorem Evl.appL {B : Nat} {w : World} {v : Value} {l : List (Int × Int)} {wr : World} (h : Evl B w v l wr) {W : World} (hb : Below wr.heap.size wr W) {B' : Nat} {u : Value} {news : List (Int × Int)} (hu : W.ownsRow B' 82 2 u news.length (evC news)) (h0 : 0 < news.length) (hl : l.length + news.length ≤ 1000000) (ty : TypeId) :
    ∃ v' w', (Builtin.append_ #[31, 31] ty #[v, u]).run Try.prog W = .ok v' w' ∧ Evl B w v' (l ++ news) w' := by
  obtain ⟨i0, hi0, hz0⟩ := Option.map_eq_some_iff.1 info37
  simp only [Prod.mk.injEq] at hz0
  obtain ⟨hz1, hz2, hz3⟩ := hz0
  have ho := owns_below h.own hb
  have hBW : B ≤ W.heap.size := Nat.le_trans h.le hb.size
  rcases hu.2 with ⟨_, e⟩ | ⟨g, cap, cur, rfl, _, hg, hn, hm, hs, ht⟩
  · omega
  · have hc := hu.cells (g := g) rfl
    obtain ⟨v', w', hr, h2, h3, _, h5⟩ := run_append_own_at (P := Try.prog) W B 31 ty 82 i0 (.agg #[.int .i64 0, .int .i64 0]) 2 16 Try.underlying31 hi0 hz1 hz2 hz3 rfl (by decide) v l.length (evC l) ho ⟨g, 0, none⟩ news.length cap (evC news) (evC_len news) hc (fun u hu => by
        simp only [evC, List.mem_flatMap, List.mem_cons, List.not_mem_nil, or_false] at hu
        obtain ⟨x, _, rfl | rfl⟩ := hu <;> rfl) (by unfold maxLen; omega) (by omega) hBW
    refine ⟨v', w', hr, (h.old.trans (hb.mono h.le)).trans ⟨h3.os, h3.tape, h3.output, h3.size, fun k hk => h3.block k (by omega) (fun e => by have := (ho.lt k e.symm).1; omega)⟩, Nat.le_trans hBW h3.size, ?_⟩
    rw [List.length_append, evC_app]
    exact h2
theorem wlog_pos (h n : Nat) : 0 < (wlog h n).length := by
  unfold wlog
  split
  · split <;> simp
  · simp
theorem tlog_pos (h : Nat) : 0 < (tlog h).length := by unfold tlog; split <;> simp
/-- numbers that are read -/
def RdN (W : World) (a : Option Addr) (ns : List Nat) : Prop := ∀ i, i < ns.length → ∃ b o, a = some ⟨b, o, none⟩ ∧ W.cell? ⟨b, o + i, none⟩ = some (.int .i64 ((ns.getD i 0 : Nat) : Int))
theorem takeN_snoc (ns : List Nat) {i : Nat} (h : i < ns.length) : ns.take (i + 1) = ns.take i ++ [ns.getD i 0] := by
  rw [List.take_add_one, List.getD_eq_getElem?_getD, List.getElem?_eq_getElem h]
  rfl
theorem takeN_sum : ∀ (ns : List Nat) (i : Nat), (ns.take i).sum + ns.getD i 0 ≤ ns.sum
  | [], i => by simp
  | m :: r, 0 => by simp
  | m :: r, i + 1 => by
    have := takeN_sum r i
    simp at this ⊢
    omega
set_option maxRecDepth 100000 in
set_option maxHeartbeats 8000000 in
theorem eof_any (w : World) (ns : List Nat) (a : Option Addr) (cap n : Nat) (hn : ns.length = n) (hR : RdN w a ns) (hl : n ≤ 1000) (hs : ns.sum ≤ 131072) :
    Calls Try.prog 26 #[.slice a n cap] w fun e w' => ∃ u, e = .returned u ∧ Evl w.heap.size w u (olg ns) w' := by
  obtain ⟨B, hB⟩ : ∃ B, w.heap.size = B := ⟨_, rfl⟩
  have H0 : Hid (Evl B w (.slice none 0 0) (plog 0 0 (ns.take 0)) w) := ⟨Below.refl _ _, by rw [hB]; exact Nat.le_refl _, World.ownsRow_nil _ _ _ _⟩
  have HN : Hid (ns.length = n ∧ n ≤ 1000 ∧ ns.sum ≤ 131072 ∧ (∀ i, i < n → ∃ b o, a = some ⟨b, o, none⟩ ∧ ∀ Y, Below B w Y → Y.cell? ⟨b, o + i, none⟩ = some (.int .i64 ((ns.getD i 0 : Nat) : Int)))) := ⟨hn, hl, hs, fun i hi => by
    obtain ⟨b, o, h1, h2⟩ := hR i (by rw [hn]; exact hi)
    refine ⟨b, o, h1, fun Y hY => ?_⟩
    rw [World.cell?_of_block (a := ⟨b, o + i, none⟩) (hY.block b (by rw [← hB]; exact World.block_lt_of_cell? w _ h2))]
    exact h2⟩
  rw [hB]
  obtain ⟨OL, hOL⟩ : ∃ OL, olg ns = OL := ⟨_, rfl⟩
  rw [hOL]
  have HOL : Hid (olg ns = OL) := hOL
  clear hB hn hR hl hs hOL
  go_enter Try.func26, Try.ntmps26
  go_wp2
  go_loopw [3, 4, 5] (fun v vh vi w' => ∃ i : Nat, i ≤ n ∧ vi = .int .i64 (i : Int) ∧ vh = .int .i64 (((ns.take i).sum % 16 : Nat) : Int) ∧ Evl B w v (plog 0 0 (ns.take i)) w') (fun _ _ vi _ => n - (intOf vi).toNat)
  case atStart => exact ⟨0, Nat.zero_le _, rfl, rfl, H0.out⟩
  case round =>
    clear H0
    obtain ⟨i, hi, rfl, rfl, hp⟩ := hrel
    obtain ⟨h, hh⟩ : ∃ h, (ns.take i).sum % 16 = h := ⟨_, rfl⟩
    have hts := takeN_sum ns i
    have hpl := plog_len (ns.take i) 0 0 (by omega)
    have HP : Hid (Evl B w u3 (plog 0 0 (ns.take i)) wr) := hp
    have HL : Hid ((plog 0 0 (ns.take i)).length + 10 + ns.getD i 0 ≤ 300000 ∧ (ns.take i).sum % 16 = h ∧ h < 16 ∧ ns.getD i 0 ≤ 131072) := ⟨by
      have := HN.out.2.1
      have := HN.out.2.2.1
      have hlt : (ns.take i).length ≤ n := by rw [List.length_take]; omega
      omega, hh, by omega, by have := HN.out.2.2.1; omega⟩
    rw [hh]
    clear hp hts hpl
    by_cases hlt : i < n
    · have b1 : (i : Int) < (n : Int) := by omega
      obtain ⟨b, o, rfl, hcc⟩ := HN.out.2.2.2 i hlt
      have HAP : Hid (∀ ty, ∃ v' w', (Builtin.append_ #[31, 31] ty #[u3, .slice (some ⟨wr.heap.size + 1 + 1, 0, none⟩) 2 2]).run Try.prog (((wr.alloc (.cells #[.int .i64 1, .int .i64 1] 82)).alloc (.cells #[.int .i64 2, .int .i64 (i : Int)] 82)).alloc (.cells #[.int .i64 1, .int .i64 1, .int .i64 2, .int .i64 (i : Int)] 82)) = .ok v' w' ∧ Evl B w v' ((plog 0 0 (ns.take i)) ++ [(1, 1), (2, (i : Int))]) w') := fun ty => HP.out.app ((((Below.refl _ _).alloc (Nat.le_refl _) _).alloc (by simp) _).alloc (by simp; omega) _) [(1, 1), (2, (i : Int))] rfl (by rw [heap_alloc_any, if_pos (by simp [size_alloc])]; rfl) (by have := HL.out.1; simp only [List.length_cons, List.length_nil]; omega) ty
      obtain ⟨m, hm⟩ : ∃ m, ns.getD i 0 = m := ⟨_, rfl⟩
      rw [hm] at hcc
      have HCC : Hid (∀ Y, Below B w Y → Y.cell? ⟨b, o + i, none⟩ = some (.int .i64 (m : Int))) := hcc
      have HM : Hid (ns.getD i 0 = m ∧ m ≤ 131072 ∧ i < n) := ⟨hm, by rw [← hm]; exact HL.out.2.2.2, hlt⟩
      clear hcc hm hi hh
      go_wp2_with (first | (go_at_call 33; refine (rif2 true _).mono ?_; rintro e wi ⟨rfl, hw⟩; obtain rfl := hw) | (go_at_call 34; refine (rat2 (i : Int) _).mono ?_; rintro e wi ⟨rfl, hw⟩; obtain rfl := hw) | (at_builtin; first | (refine wpList_app _ rfl (.tmp 14) (.tmp 18) 31 31 rfl _ _ rfl rfl HAP.out ?_; intro av aw ah; have aH : Hid _ := ah; have ca := HCC.out aw ah.old; have CW : Hid _ := ewrite_any h m HL.out.2.2.1 HM.out.2.1 aw; clear ah HAP) | (refine wpList_app _ rfl (.tmp 29) (.tmp 30) 31 31 rfl _ _ rfl rfl HAQ.out ?_; intro cv cw ch; have cH : Hid _ := ch; clear ch HAQ)) | (go_at_call 18; refine Calls.mono CW.out ?_; rintro e bw ⟨bu, rfl, bh⟩; have HAQ : Hid _ := fun ty => aH.out.appL bh.old bh.own (wlog_pos _ _) (by have := wlog_len h m HL.out.2.2.1; have := HL.out.1; have := HM.out.1; simp only [List.length_append, List.length_cons, List.length_nil]; omega) ty; clear bh))
      go_roundw
      case rel =>
        have hsn := takeN_snoc ns (i := i) (by rw [HN.out.1]; exact HM.out.2.2)
        refine ⟨i + 1, HM.out.2.2, by rw [wrapS HM.out.2.2 (by have := HN.out.2.1; unfold maxLen; omega)]; exact congrArg (Value.int .i64) (by omega), ?_, ?_⟩
        · refine congrArg (Value.int .i64) ?_
          have e1 := HL.out.2.1
          rw [hsn, List.sum_append, HM.out.1]
          simp only [List.sum_cons, List.sum_nil]
          omega
        · have h1 := cH.out
          rw [hsn, plog_snoc _ 0 0 _ (by omega)]
          have e2 : (ns.take i).length = i := by rw [List.length_take, HN.out.1]; have := HM.out.2.2; omega
          rw [e2, Nat.zero_add, Nat.zero_add, HL.out.2.1, HM.out.1]
          simp only [List.append_assoc, List.cons_append, List.nil_append] at h1 ⊢
          exact h1
      case measure => exact measS HM.out.2.2 (by have := HN.out.2.1; unfold maxLen; omega)
    · have b1 : ¬ (i : Int) < (n : Int) := by omega
      have HAP : Hid (∀ ty, ∃ v' w', (Builtin.append_ #[31, 31] ty #[u3, .slice (some ⟨wr.heap.size + 1, 0, none⟩) 1 1]).run Try.prog ((wr.alloc (.cells #[.int .i64 1, .int .i64 0] 82)).alloc (.cells #[.int .i64 1, .int .i64 0] 82)) = .ok v' w' ∧ Evl B w v' ((plog 0 0 (ns.take i)) ++ [(1, 0)]) w') := fun ty => HP.out.app (((Below.refl _ _).alloc (Nat.le_refl _) _).alloc (by simp) _) [(1, 0)] rfl (by rw [heap_alloc_any, if_pos (by simp [size_alloc])]; rfl) (by have := HL.out.1; simp only [List.length_cons, List.length_nil]; omega) ty
      have et : ns.take i = ns := List.take_of_length_le (by rw [HN.out.1]; omega)
      have HE : Hid (OL = plog 0 0 (ns.take i) ++ [(1, 0)] ++ tlog h) := by
        have : OL = plog 0 0 (ns.take i) ++ [(1, 0)] ++ tlog h := by
          rw [← HOL.out, ← HL.out.2.1, et]
          unfold olg
          simp
          rfl
        exact this
      clear hi hh et
      go_wp2_with (first | (go_at_call 33; refine (rif2 false _).mono ?_; rintro e wi ⟨rfl, hw⟩; obtain rfl := hw) | (at_builtin; first | (refine wpList_app _ rfl (.tmp 33) (.tmp 35) 31 31 rfl _ _ rfl rfl HAP.out ?_; intro av aw ah; have aH : Hid _ := ah; have CT : Hid _ := etag_any h HL.out.2.2.1 aw; clear ah HAP) | (refine wpList_app _ rfl (.tmp 37) (.tmp 39) 31 31 rfl _ _ rfl rfl HAQ.out ?_; intro cv cw ch; have cH : Hid _ := ch; clear ch HAQ)) | (go_at_call 12; refine Calls.mono CT.out ?_; rintro e bw ⟨bu, rfl, bh⟩; have HAQ : Hid _ := fun ty => aH.out.appL bh.old bh.own (tlog_pos _) (by have := tlog_len h; have := HL.out.1; simp only [List.length_append, List.length_cons, List.length_nil]; omega) ty; clear bh))
      go_ret
      refine ⟨cv, rfl, ?_⟩
      rw [HE.out]
      exact cH.out
end Go.Proofs.Ytgfamcadgahiiaa
