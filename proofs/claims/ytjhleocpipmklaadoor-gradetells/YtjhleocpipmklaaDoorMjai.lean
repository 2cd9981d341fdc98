import Derived.Laws.BytesArg
import Derived.Test.YtjhleocpipmklaaDoorMjah
namespace Go.Proofs.YtjhleocpipmklaaDoor
set_option linter.unusedSimpArgs false
set_option linter.unusedVariables false
open Go.ChangeShapes Go.WideShapes Go.ChangeAt Go.RowKit Go.Pin Go.Pat Go.Deep
theorem oneWay_eq (p : Pt) : oneWay p = (decide (p.ln.length = 1) && lst p == 0) := by
  obtain ⟨nm, b0, b1, L⟩ := p
  match L with
  | [] => rfl
  | [(f, ts)] => simp [oneWay, lst]
  | x :: y :: r => simp [oneWay]
set_option maxRecDepth 100000 in
set_option maxHeartbeats 4000000 in
theorem from_any (v : Value) (p : Pt) (w : World) (h : RdP w v p) (hv : ∀ l ∈ p.ln, l.1 = 0 ∨ l.1 = 1) (hne : p.ln.length ≠ 0) (k : Nat) (hk : k ≤ 1000) :
    Calls Tryd.prog 18 #[v, .int .i64 (k : Int)] w fun e w' => e = .returned (.int .i64 (sender p k)) ∧ Below w.heap.size w w' := by
  obtain ⟨v0, v1, vl, rfl, h0, h1, hl⟩ := h
  obtain ⟨al, cl, rfl, _, hm, _⟩ := id hl
  have hst := pb_start w p.nm v0 v1 (.slice al p.ln.length cl)
  have hat := fun j (hj : j < p.ln.length) => hl.at hj
  have how := oneWay_eq p
  obtain ⟨q, hq⟩ : ∃ q, w.heap.size = q := ⟨_, rfl⟩
  obtain ⟨n, hn⟩ : ∃ n, p.ln.length = n := ⟨_, rfl⟩
  obtain ⟨nm, hnm⟩ : ∃ nm, p.nm = nm := ⟨_, rfl⟩
  simp only [hn, hq, hnm] at hst hat hm how hne ⊢
  obtain ⟨W, hW⟩ : ∃ W, w.alloc (.cells #[.string nm, v0, v1, .slice al n cl] 26) = W := ⟨_, rfl⟩
  rw [hW] at hst
  have HP : Hid (PB q w nm v0 v1 (.slice al n cl) W) := hst
  have c3 := hst.c3
  by_cases hlt : k < n
  · obtain ⟨b, o, a2, n2, c2', rfl, hc, _, _⟩ := hat k hlt
    have x0 := (hc W hst.old).1
    have b1 : (k : Int) < (n : Int) := by omega
    have HR : Hid (sender p k = (p.ln.getD k (0, [])).1) := by show sender p k = _; simp [sender, hn, hlt]
    generalize (p.ln.getD k (0, [])).1 = f at *
    clear hst hat hm how h0 h1 hl hc
    go_enter Tryd.func18, Tryd.ntmps18
    go_wp2
    go_ret
    exact ⟨by rw [HR.out]; rfl, HP.out.old⟩
  have b1 : ¬ (k : Int) < (n : Int) := by omega
  obtain ⟨b, o, a2, n2, c2', rfl, hc, _, _⟩ := hat (n - 1) (by omega)
  have hf : (p.ln.getD (n - 1) (0, [])).1 = lst p := by rw [← hn]; rfl
  rw [hf] at hc
  have x0 := (hc W hst.old).1
  have hlf : lst p = 0 ∨ lst p = 1 := hv _ (by rw [hn]; simp [List.getD, show n - 1 < p.ln.length by omega])
  have hs : sender p k = if oneWay p then 0 else if (k - n) % 2 = 0 then 1 - lst p else lst p := by simp [sender, hn, hlt, hne]
  rw [how] at hs
  generalize lst p = f at *
  have bw : wrap64 ((n : Int) - 1) = ((n - 1 : Nat) : Int) := by rw [IntWalk.wrap64_in _ ⟨by omega, by omega⟩]; omega
  have bw2 : wrap64 ((k : Int) - (n : Int)) = ((k - n : Nat) : Int) := by rw [IntWalk.wrap64_in _ ⟨by omega, by omega⟩]; omega
  have b5 : ((n - 1 : Nat) : Int) < (n : Int) := by omega
  have HS : Hid _ := hs
  clear hst hat hm how h0 h1 hl hc hs hf
  by_cases hn1 : n = 1
  · have n1b : ((n : Int) == 1) = true := by simp; omega
    have HN1 : Hid (n = 1) := hn1
    clear hn1
    rcases hlf with rfl | rfl
    · go_enter Tryd.func18, Tryd.ntmps18
      go_wp2
      go_ret
      exact ⟨by rw [HS.out]; simp [HN1.out], HP.out.old⟩
    · by_cases hp : (k - n) % 2 = 0
      all_goals
        have hr : (((k : Int) - (n : Int)) % 2 == 0) = decide ((k - n) % 2 = 0) := by
          by_cases h : (k - n) % 2 = 0
          · rw [decide_eq_true h]; simp; omega
          · rw [decide_eq_false h]; simp; omega
        first | rw [decide_eq_true hp] at hr | rw [decide_eq_false hp] at hr
        go_enter Tryd.func18, Tryd.ntmps18
        go_wp2
        go_ret
        exact ⟨by rw [HS.out]; simp [hp], HP.out.old⟩
  · have n1b : ((n : Int) == 1) = false := by simp; omega
    rcases hlf with rfl | rfl <;> by_cases hp : (k - n) % 2 = 0
    all_goals
      have hr : (((k : Int) - (n : Int)) % 2 == 0) = decide ((k - n) % 2 = 0) := by
        by_cases h : (k - n) % 2 = 0
        · rw [decide_eq_true h]; simp; omega
        · rw [decide_eq_false h]; simp; omega
      first | rw [decide_eq_true hp] at hr | rw [decide_eq_false hp] at hr
      go_enter Tryd.func18, Tryd.ntmps18
      go_wp2
      go_ret
      exact ⟨by rw [HS.out]; simp [hp, hn1], HP.out.old⟩
set_option maxRecDepth 100000 in
set_option maxHeartbeats 4000000 in
theorem long_any (v : Value) (p : Pt) (w : World) (h : RdP w v p) :
    Calls Tryd.prog 9 #[v] w fun e w' => e = .returned (.bool (lng p)) ∧ Below w.heap.size w w' := by
  obtain ⟨v0, v1, vl, rfl, h0, h1, hl⟩ := h
  obtain ⟨al, cl, rfl, _, hm, _⟩ := id hl
  obtain ⟨a0, p0, rfl, _, m0, _⟩ := id h0
  obtain ⟨a1, p1, rfl, _, m1, _⟩ := id h1
  have hst := pb_start w p.nm (.slice a0 p.b0.length p0) (.slice a1 p.b1.length p1) (.slice al p.ln.length cl)
  have hat := fun j (hj : j < p.ln.length) => hl.at hj
  obtain ⟨q, hq⟩ : ∃ q, w.heap.size = q := ⟨_, rfl⟩
  obtain ⟨n, hn⟩ : ∃ n, p.ln.length = n := ⟨_, rfl⟩
  obtain ⟨n0, hn0⟩ : ∃ n0, p.b0.length = n0 := ⟨_, rfl⟩
  obtain ⟨n1, hn1⟩ : ∃ n1, p.b1.length = n1 := ⟨_, rfl⟩
  obtain ⟨nm, hnm⟩ : ∃ nm, p.nm = nm := ⟨_, rfl⟩
  have hlg : lng p = (decide (200 < n0) || decide (200 < n1) || decide (200 < n) || p.ln.any fun l => decide (200 < l.2.length)) := by unfold lng; rw [hn0, hn1, hn]
  simp only [hn, hq, hnm, hn0, hn1] at hst hat hm ⊢
  obtain ⟨W, hW⟩ : ∃ W, w.alloc (.cells #[.string nm, .slice a0 n0 p0, .slice a1 n1 p1, .slice al n cl] 26) = W := ⟨_, rfl⟩
  rw [hW] at hst
  have HP : Hid (PB q w nm (.slice a0 n0 p0) (.slice a1 n1 p1) (.slice al n cl) W) := hst
  have c1 := hst.c1
  have c2 := hst.c2
  have c3 := hst.c3
  have HL : Hid _ := hlg
  have HN : Hid (p.ln.length = n) := hn
  have HAT : Hid (∀ j, j < n → _) := hat
  clear hst hat h0 h1 hl hlg
  by_cases g0 : 200 < n0
  · have b0 : (200 : Int) < (n0 : Int) := by omega
    go_enter Tryd.func9, Tryd.ntmps9
    go_wp2
    go_ret
    exact ⟨by rw [HL.out]; simp [g0], HP.out.old⟩
  have b0 : ¬ (200 : Int) < (n0 : Int) := by omega
  have b0' : decide ((200 : Int) < (n0 : Int)) = false := decide_eq_false b0
  by_cases g1 : 200 < n1
  · have b1 : (200 : Int) < (n1 : Int) := by omega
    go_enter Tryd.func9, Tryd.ntmps9
    go_wp2
    go_ret
    exact ⟨by rw [HL.out]; simp [g1], HP.out.old⟩
  have b1 : ¬ (200 : Int) < (n1 : Int) := by omega
  have b1' : decide ((200 : Int) < (n1 : Int)) = false := decide_eq_false b1
  by_cases g2 : 200 < n
  · have b2 : (200 : Int) < (n : Int) := by omega
    go_enter Tryd.func9, Tryd.ntmps9
    go_wp2
    go_ret
    exact ⟨by rw [HL.out]; simp [g2], HP.out.old⟩
  have b2 : ¬ (200 : Int) < (n : Int) := by omega
  have b2' : decide ((200 : Int) < (n : Int)) = false := decide_eq_false b2
  have HL2 : Hid (lng p = p.ln.any fun l => decide (200 < l.2.length)) := by show lng p = _; rw [HL.out]; simp [g0, g1, g2]
  have HM : Hid (n ≤ 140737488355328) := hm
  go_enter Tryd.func9, Tryd.ntmps9
  go_wp2
  go_loopw [3] (fun v3 wr => ∃ i : Nat, i ≤ n ∧ v3 = .int .i64 i ∧ (p.ln.take i).any (fun l => decide (200 < l.2.length)) = false ∧ wr = W) (fun v _ => n - (intOf v).toNat)
  case atStart => exact ⟨0, Nat.zero_le _, rfl, by simp, rfl⟩
  case round =>
    obtain ⟨i, hi, rfl, hno, rfl⟩ := hrel
    by_cases hin : i < n
    · have b4 : (i : Int) < (n : Int) := by omega
      obtain ⟨b, o, a2, n2, c2', rfl, hc, hrn, hn2⟩ := HAT.out i hin
      have x1 := (hc _ HP.out.old).2
      have hnx := any_take p.ln (fun l => decide (200 < l.2.length)) i (by rw [HN.out]; exact hin)
      simp only [hno, Bool.false_or, ← hn2] at hnx
      have HNX : Hid ((p.ln.take (i + 1)).any (fun l => decide (200 < l.2.length)) = decide (200 < n2)) := hnx
      have HI : Hid (i < n ∧ n ≤ 140737488355328) := ⟨hin, HM.out⟩
      clear hc hrn hnx hno hi hin hn2
      by_cases g3 : 200 < n2
      · have b3 : (200 : Int) < (n2 : Int) := by omega
        have HR : Hid (lng p = true) := by
          show lng p = true
          rw [HL2.out]
          exact any_true (i := i + 1) (by rw [HNX.out]; simp [g3])
        go_wp2
        go_ret
        exact ⟨by rw [HR.out]; rfl, HP.out.old⟩
      · have b3 : ¬ (200 : Int) < (n2 : Int) := by omega
        have HG : Hid (decide (200 < n2) = false) := decide_eq_false g3
        go_wp2
        first
          | exact ⟨⟨i + 1, HI.out.1, congrArg (Value.int .i64) (wrapS HI.out.1 HI.out.2), by rw [HNX.out, HG.out], trivial⟩, measS HI.out.1 HI.out.2⟩
          | exact ⟨⟨i + 1, HI.out.1, congrArg (Value.int .i64) (Int.natCast_succ i).symm, by rw [HNX.out, HG.out], trivial⟩, measP HI.out.1⟩
    · have b4 : ¬ (i : Int) < (n : Int) := by omega
      have HR : Hid (lng p = false) := by
        show lng p = false
        rw [HL2.out, ← hno, List.take_of_length_le (by rw [HN.out]; omega)]
      clear hno
      go_wp2
      go_ret
      exact ⟨by rw [HR.out]; rfl, HP.out.old⟩
end Go.Proofs.YtjhleocpipmklaaDoor
namespace Go.Proofs.YtjhleocpipmklaaDoor
set_option linter.unusedSimpArgs false
set_option linter.unusedVariables false
open Go.ChangeShapes Go.WideShapes Go.ChangeAt Go.RowKit Go.Pin Go.Pat Go.Deep
theorem gcs_at (l : List Gd) : ∀ (j : Nat), j < l.length → (gcs l)[j * 3]? = some (.int .i64 (l.getD j (0, 0, 0)).1) ∧ (gcs l)[j * 3 + 1]? = some (.int .i64 (l.getD j (0, 0, 0)).2.1) ∧ (gcs l)[j * 3 + 2]? = some (.int .i64 (l.getD j (0, 0, 0)).2.2) := by
  induction l with
  | nil => intro j hj; simp at hj
  | cons g r ih =>
    intro j hj
    cases j with
    | zero => simp [gcs]
    | succ j =>
      have := ih j (by simpa using hj)
      have e : gcs (g :: r) = .int .i64 g.1 :: .int .i64 g.2.1 :: .int .i64 g.2.2 :: gcs r := by simp [gcs]
      rw [e, show (j + 1) * 3 = j * 3 + 1 + 1 + 1 by omega]
      simpa using this
/-- a list of grades of one's own -/
theorem own_slice {W : World} {b : Nat} {u : Value} {n : Nat} {xs : List Value} (h : W.ownsRow b 48 3 u n xs) : ∃ a cap, u = .slice a n cap := by
  rcases h.2 with ⟨rfl, rfl⟩ | ⟨g, cap, cur, rfl, _⟩
  · exact ⟨_, _, rfl⟩
  · exact ⟨_, _, rfl⟩
theorem own_at {W : World} {b : Nat} {a : Option Addr} {n cap : Nat} {l : List Gd} (h : W.ownsRow b 48 3 (.slice a n cap) n (gcs l)) {j : Nat} (hj : j < n) : n = l.length ∧ ∃ g, a = some ⟨g, 0, none⟩ ∧ b ≤ g ∧ ∀ W', Below W.heap.size W W' → W'.cell? ⟨g, j * 3, none⟩ = some (.int .i64 (l.getD j (0, 0, 0)).1) ∧ W'.cell? ⟨g, j * 3 + 1, none⟩ = some (.int .i64 (l.getD j (0, 0, 0)).2.1) ∧ W'.cell? ⟨g, j * 3 + 2, none⟩ = some (.int .i64 (l.getD j (0, 0, 0)).2.2) := by
  have hn : n = l.length := by have := h.1; rw [gcs_length] at this; omega
  refine ⟨hn, ?_⟩
  rcases h.2 with ⟨_, e⟩ | ⟨g, cap', cur, e, hb, hg, h1, h2, h3, h4⟩
  · omega
  · injection e with e1 e2 e3
    refine ⟨g, e1, hb, fun W' hW => ?_⟩
    have hg' : W'.heap[g]? = some (.cells cur 48 (0, 0)) := (hW.block g (Array.getElem?_eq_some_iff.1 hg).1).trans hg
    have hc : ∀ i v, i < n * 3 → (gcs l)[i]? = some v → W'.cell? ⟨g, i, none⟩ = some v := fun i v hi hv => by
      rw [cell_of_row _ _ _ _ _ _ hg', ← hv, ← h4, List.getElem?_take_of_lt hi]
      simp
    have := gcs_at l j (by omega)
    exact ⟨hc _ _ (by omega) this.1, hc _ _ (by omega) this.2.1, hc _ _ (by omega) this.2.2⟩
def who (f : Int) : ByteArray := ⟨#[if f = 0 then 105 else 114]⟩
def one (d : Int) : ByteArray := strOfNums [48 + d]
theorem one_size (d : Int) : (one d).size = 1 := rfl
theorem conv1 (W : World) (z : Int) : (convert 112 9 (.slice (some ⟨W.heap.size, 0, none⟩) 1 1)).run Tryd.prog (W.alloc (.cells #[.int .u8 z] 5)) = .ok (.string (strOfNums [z])) (W.alloc (.cells #[.int .u8 z] 5)) :=
  run_convert_bytes_arg _ 112 5 Tryd.underlying112 Tryd.underlying5 W.heap.size 0 1 1 [z] rfl (fun i hi => by
    obtain rfl : i = 0 := by omega
    rw [cell_of_row _ _ _ _ _ _ (heap_alloc_new _ _)]
    rfl) 9 Tryd.underlying9
def dgs : List Gd → ByteArray → ByteArray
  | [], s => s
  | g :: r, s => dgs r (s ++ who g.1 ++ one g.2.1 ++ one g.2.2)
set_option maxRecDepth 100000 in
set_option maxHeartbeats 4000000 in
theorem digits_any {W : World} {b : Nat} {u : Value} {l : List Gd} (h : W.ownsRow b 48 3 u l.length (gcs l)) (hl : l.length ≤ 100) (hg : ∀ g ∈ l, (0 ≤ g.2.1 ∧ g.2.1 ≤ 9) ∧ 0 ≤ g.2.2 ∧ g.2.2 ≤ 9) :
    Calls Tryd.prog 44 #[u] W fun e w' => e = .returned (.string (dgs l ByteArray.empty)) ∧ Below W.heap.size W w' := by
  obtain ⟨a, cap, rfl⟩ := own_slice h
  obtain ⟨n, hn⟩ : ∃ n, l.length = n := ⟨_, rfl⟩
  obtain ⟨q, hq⟩ : ∃ q, W.heap.size = q := ⟨_, rfl⟩
  rw [hn] at h hl ⊢
  have HO : Hid (W.ownsRow b 48 3 (.slice a n cap) n (gcs l)) := h
  have HN : Hid (l.length = n) := hn
  have HG : Hid _ := hg
  have HL : Hid (n ≤ 100) := hl
  rw [hq]
  clear h hg hn
  go_enter Tryd.func44, Tryd.ntmps44
  go_wp2
  go_loopw [3, 4] (fun v3 v4 wr => ∃ (i : Nat) (s : ByteArray), i ≤ n ∧ v4 = .int .i64 i ∧ v3 = .string s ∧ s.size = 3 * i ∧ dgs l ByteArray.empty = dgs (l.drop i) s ∧ Below q W wr) (fun _ v _ => n - (intOf v).toNat)
  case atStart => exact ⟨0, ByteArray.empty, Nat.zero_le _, rfl, rfl, rfl, rfl, Below.refl _ _⟩
  case round =>
    obtain ⟨i, s, hi, rfl, rfl, hs, hd, hp⟩ := hrel
    by_cases hlt : i < n
    · have b1 : (i : Int) < (n : Int) := by omega
      obtain ⟨-, g, rfl, -, hc⟩ := own_at HO.out hlt
      rw [hq] at hc
      have c0 := (hc wr hp).1
      have c1 := (hc wr hp).2.1
      have c2 := (hc wr hp).2.2
      have hmem : l.getD i (0, 0, 0) ∈ l := by simp [List.getD, show i < l.length by rw [HN.out]; exact hlt]
      have hgi := HG.out _ hmem
      have hdr : l.drop i = l.getD i (0, 0, 0) :: l.drop (i + 1) := by
        rw [List.drop_eq_getElem_cons (by rw [HN.out]; exact hlt)]
        simp [List.getD, show i < l.length by rw [HN.out]; exact hlt]
      rw [hdr] at hd
      obtain ⟨t, ht⟩ : ∃ t, l.getD i (0, 0, 0) = t := ⟨_, rfl⟩
      rw [ht] at c0 c1 c2 hgi hd
      obtain ⟨f, x, y⟩ := t
      simp only at c0 c1 c2 hgi hd
      have HD : Hid (dgs l ByteArray.empty = dgs (l.drop (i + 1)) (s ++ who f ++ one x ++ one y)) := hd
      have HI : Hid (i < n ∧ n ≤ 140737488355328) := ⟨hlt, by have := HL.out; omega⟩
      have HX : Hid ((0 ≤ x ∧ x ≤ 9) ∧ 0 ≤ y ∧ y ≤ 9) := hgi
      have HS : Hid (s.size = 3 * i) := hs
      have hsz : s.size ≤ 300 := by have := HL.out; omega
      rw [ht] at hc
      simp only at hc
      have HC : Hid _ := hc
      have HPW : Hid (Below q W wr) := hp
      obtain ⟨s0, hs0⟩ : ∃ s0, s ++ who f = s0 := ⟨_, rfl⟩
      have HS0 : Hid (s ++ who f = s0) := hs0
      clear hd hp hs hi hmem hdr ht hgi hc hs0 hl hlt
      have h0z : s0.size ≤ 301 := by rw [← HS0.out, ByteArray.size_append, show (who f).size = 1 from rfl]; omega
      rcases hf0 : (f == 0) with _ | _
      all_goals
        have hw : s ++ who f = s0 := HS0.out
        simp only [who, show (f = 0) = ((f == 0) = true) by simp, hf0, if_true, if_false, Bool.false_eq_true] at hw
        go_wp2
        clear hw c0 hsz
        go_loopw [3, 6] (fun v3 v6 wy => Below q W wy ∧ ((v6 = .int .i64 0 ∧ v3 = .string s0) ∨ (v6 = .int .i64 1 ∧ v3 = .string (s0 ++ one x)) ∨ (v6 = .int .i64 2 ∧ v3 = .string (s0 ++ one x ++ one y)))) (fun _ v _ => 2 - (intOf v).toNat)
        case atStart => exact ⟨HPW.out, .inl ⟨rfl, rfl⟩⟩
        case round =>
          obtain ⟨hb, hr⟩ := hrel
          have d1 := (HC.out wr hb).2.1
          have d2 := (HC.out wr hb).2.2
          have HB : Hid (Below q W wr) := hb
          clear hb c1 c2
          rcases hr with ⟨rfl, rfl⟩ | ⟨rfl, rfl⟩ | ⟨rfl, rfl⟩
          · have x1 : ¬ x < 0 := by have := HX.out; omega
            have x2 : ¬ 9 < x := by have := HX.out; omega
            have x3 : wrap64 (48 + x) = 48 + x := IntWalk.wrap64_in _ ⟨by omega, by omega⟩
            have x4 : IntKind.u8.wrap (48 + x) = 48 + x := by rw [IntKind.wrap_u8']; omega
            have hcv := conv1 wr (48 + x)
            have ho : strOfNums [48 + x] = one x := rfl
            rw [ho] at hcv
            have hz1 := one_size x
            obtain ⟨o1, ho1⟩ : ∃ o1, one x = o1 := ⟨_, rfl⟩
            rw [ho1] at hcv hz1
            have HO1 : Hid (one x = o1) := ho1
            obtain ⟨p0, hp0⟩ : ∃ p0, s0 = p0 := ⟨_, rfl⟩
            have hpz : p0.size ≤ 303 := by rw [← hp0]; omega
            simp only [hp0]
            have HP0 : Hid (s0 = p0) := hp0
            clear ho ho1 hp0
            go_wp2
            exact ⟨⟨HB.out.alloc (by have := HB.out.size; omega) _, .inr (.inl ⟨rfl, by rw [HO1.out]⟩)⟩, by decide⟩
          · have x1 : ¬ y < 0 := by have := HX.out; omega
            have x2 : ¬ 9 < y := by have := HX.out; omega
            have x3 : wrap64 (48 + y) = 48 + y := IntWalk.wrap64_in _ ⟨by omega, by omega⟩
            have x4 : IntKind.u8.wrap (48 + y) = 48 + y := by rw [IntKind.wrap_u8']; omega
            have hcv := conv1 wr (48 + y)
            have ho : strOfNums [48 + y] = one y := rfl
            rw [ho] at hcv
            have hz1 := one_size y
            obtain ⟨o1, ho1⟩ : ∃ o1, one y = o1 := ⟨_, rfl⟩
            rw [ho1] at hcv hz1
            have HO1 : Hid (one y = o1) := ho1
            obtain ⟨p0, hp0⟩ : ∃ p0, s0 ++ one x = p0 := ⟨_, rfl⟩
            have hpz : p0.size ≤ 303 := by rw [← hp0]; rw [ByteArray.size_append, one_size]; omega
            simp only [hp0]
            have HP0 : Hid (s0 ++ one x = p0) := hp0
            clear ho ho1 hp0
            go_wp2
            exact ⟨⟨HB.out.alloc (by have := HB.out.size; omega) _, .inr (.inr ⟨rfl, by rw [HO1.out]⟩)⟩, by decide⟩
          · have HF : Hid (dgs l ByteArray.empty = dgs (l.drop (i + 1)) (s0 ++ one x ++ one y) ∧ (s0 ++ one x ++ one y).size = 3 * (i + 1)) := by
              refine ⟨by rw [HD.out, HS0.out], ?_⟩
              rw [ByteArray.size_append, ByteArray.size_append, one_size, one_size, ← HS0.out, ByteArray.size_append, HS.out, show (who f).size = 1 from rfl]
              omega
            go_wp2
            exact ⟨⟨i + 1, s0 ++ one x ++ one y, HI.out.1, congrArg (Value.int .i64) (wrapS HI.out.1 HI.out.2), rfl, HF.out.2, HF.out.1, HB.out⟩, measS HI.out.1 HI.out.2⟩
    · have b1 : ¬ (i : Int) < (n : Int) := by omega
      have HR : Hid (dgs l ByteArray.empty = s) := by
        show dgs l ByteArray.empty = s
        rw [hd, List.drop_eq_nil_of_le (by rw [HN.out]; omega)]
        rfl
      have HPW : Hid (Below q W wr) := hp
      clear hd hp
      go_wp2
      go_ret
      exact ⟨by rw [HR.out]; rfl, HPW.out⟩
end Go.Proofs.YtjhleocpipmklaaDoor
namespace Go.Proofs.YtjhleocpipmklaaDoor
set_option linter.unusedSimpArgs false
set_option linter.unusedVariables false
open Go.ChangeShapes Go.WideShapes Go.ChangeAt Go.RowKit Go.Pin Go.Pat Go.Deep
/-- what the program's Levels is held to -/
def LevC (ea : Int → Addr) : Prop := ∀ (v : Value) (p : Pt) (W : World) (more : Int), Errs ea W → RdP W v p → -9223372036854775808 ≤ more → more < 9223372036854775808 →
  Calls Tryd.prog 11 #[v, .int .i64 more] W fun e w' => ∃ u, e = .returned (.tuple #[u, EV ea (lvE p more)]) ∧ w'.ownsRow W.heap.size 48 3 u (lvL p more).length (gcs (lvL p more)) ∧ Below W.heap.size W w'
/-- what the program's Find is held to, of a name that there is -/
def FindC (ea : Int → Addr) (name : ByteArray) (p : Pt) : Prop := ∀ W : World, Errs ea W →
  Calls Tryd.prog 43 #[.string name] W fun e w' => ∃ v, e = .returned (.tuple #[v, .bool true]) ∧ RdP w' v p ∧ Below W.heap.size W w'
theorem lv_small {p : Pt} {more : Int} (h : lvE p more = 0) : (lvL p more).length ≤ 100 ∧ ∀ g ∈ lvL p more, (0 ≤ g.2.1 ∧ g.2.1 ≤ 9) ∧ 0 ≤ g.2.2 ∧ g.2.2 ≤ 9 := by
  have hc : chk p = 0 := by
    unfold lvE at h
    by_cases e : chk p = 0
    · exact e
    · simp [e] at h
  have hm : ¬ (more < 0 ∨ 64 < more) := by
    intro hm
    simp [lvE, hc, hm] at h
  have := (chk_valid hc).2
  unfold lvL
  rw [if_pos h]
  refine ⟨by simp; omega, fun g hg => ?_⟩
  obtain ⟨k, _, rfl⟩ := List.mem_map.1 hg
  have h1 := src_in p k
  have h2 := bst_in p (sender p k) k
  refine ⟨by show 0 ≤ src p k ∧ src p k ≤ 9; omega, ?_⟩
  show 0 ≤ dst p k ∧ dst p k ≤ 9
  unfold dst
  repeat' split
  all_goals omega
set_option maxRecDepth 100000 in
set_option maxHeartbeats 4000000 in
theorem says_any {ea : Int → Addr} (hL : LevC ea) {name : ByteArray} {p : Pt} (hF : FindC ea name p) {more : Int} (h1 : -9223372036854775808 ≤ more) (h2 : more < 9223372036854775808) (hz : lvE p more = 0) {want : ByteArray} (hd : dgs (lvL p more) ByteArray.empty = want) (W : World) (hE : Errs ea W) :
    Calls Tryd.prog 21 #[.string name, .int .i64 more, .string want] W fun e w' => e = .returned (.bool true) ∧ Below W.heap.size W w' := by
  have CF := hF W hE
  have HE : Hid (Errs ea W) := hE
  have HLv : Hid (LevC ea) := hL
  have HZ : Hid (lvE p more = 0) := hz
  have HM : Hid (-9223372036854775808 ≤ more ∧ more < 9223372036854775808) := ⟨h1, h2⟩
  have HD : Hid (dgs (lvL p more) ByteArray.empty = want) := hd
  clear hE hL hz h1 h2 hd hF
  go_enter Tryd.func21, Tryd.ntmps21
  go_upto_region 2 with (go_at_call 43; refine Calls.mono CF ?_; rintro e w1 ⟨v, rfl, hr, hb⟩; obtain ⟨v0, v1, vl, rfl, r0, r1, r2⟩ := id hr; obtain ⟨a0, k0, rfl, -, -, -⟩ := id r0; obtain ⟨a1, k1, rfl, -, -, -⟩ := id r1; obtain ⟨a2, k2, rfl, -, -, -⟩ := id r2; have HR1 : Hid (RdP w1 _ p) := hr; have HB1 : Hid (Below W.heap.size W w1) := hb; clear hr hb r0 r1 r2)
  have hpb := pb_start w1 p.nm (.slice a0 p.b0.length k0) (.slice a1 p.b1.length k1) (.slice a2 p.ln.length k2)
  obtain ⟨q1, hq1⟩ : ∃ q1, w1.heap.size = q1 := ⟨_, rfl⟩
  obtain ⟨W2, hW2⟩ : ∃ W2, w1.alloc (.cells #[.string p.nm, .slice a0 p.b0.length k0, .slice a1 p.b1.length k1, .slice a2 p.ln.length k2] 26) = W2 := ⟨_, rfl⟩
  rw [hq1, hW2] at hpb
  simp only [hq1, hW2]
  have c0 := hpb.c0
  have c1 := hpb.c1
  have c2 := hpb.c2
  have c3 := hpb.c3
  have hb12 : Below w1.heap.size w1 W2 := by rw [hq1]; exact hpb.old
  have hbW : Below W.heap.size W W2 := HB1.out.trans (hb12.mono HB1.out.size)
  have CL := HLv.out _ p W2 more (HE.out.below hbW) (HR1.out.below hb12) HM.out.1 HM.out.2
  rw [HZ.out] at CL
  simp only [EV, if_true] at CL
  have HBW : Hid (Below W.heap.size W W2) := hbW
  clear hpb hb12 hbW hW2 CF
  go_upto_region 3 with (go_at_call 11; refine Calls.mono CL ?_; rintro e w3 ⟨u, rfl, ho, hb⟩; have HO : Hid _ := ho; have HB3 : Hid (Below W.heap.size W w3) := HBW.out.trans (hb.mono HBW.out.size); clear ho hb)
  have CD := digits_any HO.out (lv_small HZ.out).1 (lv_small HZ.out).2
  rw [HD.out] at CD
  clear CL
  go_wp2_with (go_at_call 44; refine Calls.mono CD ?_; rintro e w4 ⟨rfl, hb⟩; have HB4 : Hid (Below W.heap.size W w4) := HB3.out.trans (hb.mono HB3.out.size); clear hb)
  go_ret
  exact ⟨by simp, HB4.out⟩
def pKK : Pt := ⟨⟨#[75, 75]⟩, [2], [2], [(0, [1, 4, 6]), (1, [1, 3, 5])]⟩
def pNX1 : Pt := ⟨⟨#[78, 88, 49]⟩, [], [], [(0, [1]), (1, [1, 3, 2]), (0, [4])]⟩
def zP : Pt := ⟨ByteArray.empty, [], [], []⟩
theorem kk_ok : lvE pKK 2 = 0 ∧ dgs (lvL pKK 2) ByteArray.empty = ⟨#[105, 49, 50, 114, 50, 52, 105, 50, 53, 114, 50, 53]⟩ := by decide +kernel
theorem nx1_ok : lvE pNX1 2 = 0 ∧ dgs (lvL pNX1 2) ByteArray.empty = ⟨#[105, 48, 48, 114, 48, 49, 105, 48, 51, 114, 50, 49, 105, 48, 53]⟩ := by decide +kernel
theorem z_bad : lvE zP 65 = 9 := by decide +kernel
set_option maxRecDepth 100000 in
set_option maxHeartbeats 4000000 in
theorem known_any {ea : Int → Addr} (hL : LevC ea) (hK : FindC ea ⟨#[75, 75]⟩ pKK) (hN : FindC ea ⟨#[78, 88, 49]⟩ pNX1) (W : World) (hE : Errs ea W) :
    Calls Tryd.prog 16 #[] W fun e w' => e = .returned (.bool true) ∧ Below W.heap.size W w' := by
  have CL := hL (.agg #[.string ByteArray.empty, .slice none 0 0, .slice none 0 0, .slice none 0 0]) zP W 65 hE ⟨_, _, _, rfl, ⟨none, 0, rfl, by simp [zP], by simp [zP], .inl rfl⟩, ⟨none, 0, rfl, by simp [zP], by simp [zP], .inl rfl⟩, ⟨none, 0, rfl, by simp [zP], by simp [zP], fun j hj => by simp [zP] at hj⟩⟩ (by decide) (by decide)
  rw [z_bad] at CL
  have HK : Hid (∀ W, Errs ea W → _) := says_any hL hK (more := 2) (by decide) (by decide) kk_ok.1 kk_ok.2
  have HN : Hid (∀ W, Errs ea W → _) := says_any hL hN (more := 2) (by decide) (by decide) nx1_ok.1 nx1_ok.2
  have HE : Hid (Errs ea W) := hE
  simp only [EV, show ¬ ((9 : Int) = 0) by decide, if_false] at CL
  clear hE hL hK hN
  go_enter Tryd.func16, Tryd.ntmps16
  go_upto_region 2 with (go_at_call 11; refine Calls.mono CL ?_; rintro e w1 ⟨u, rfl, ho, hb⟩; have HB1 : Hid (Below W.heap.size W w1) := hb; clear ho hb)
  clear CL
  go_wp2_with (first | (go_at_call 21; have HQ := HB2.out; refine Calls.mono (HN.out _ (HE.out.below HB2.out)) ?_; rintro e w3 ⟨rfl, hb⟩; have HB3 : Hid (Below W.heap.size W w3) := HB2.out.trans (hb.mono HB2.out.size); clear hb HQ; have k9 := ((HE.out.below HB3.out).1 9 (by decide)).1; simp only [eblk] at k9; have q9 := eq_err (HE.out.below HB3.out) (c := 9) (d := 9) (by decide) (by decide)) | (go_at_call 21; refine Calls.mono (HK.out _ (HE.out.below HB1.out)) ?_; rintro e w2 ⟨rfl, hb⟩; have HB2 : Hid (Below W.heap.size W w2) := HB1.out.trans (hb.mono HB1.out.size); clear hb))
  go_ret
  exact ⟨rfl, HB3.out⟩
end Go.Proofs.YtjhleocpipmklaaDoor
