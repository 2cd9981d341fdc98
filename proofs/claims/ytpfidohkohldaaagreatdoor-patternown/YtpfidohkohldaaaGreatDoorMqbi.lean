import Derived.BigQuiet
import Derived.Deep.QuietTactic
import Derived.Test.YtpfidohkohldaaaGreatDoorMqbh
import Derived.Test.YtpfidohkohldaaaGreatDoorMqab
import Derived.Test.YtpfidohkohldaaaGreatDoorMqad
namespace Go.Proofs.YtpfidohkohldaaaGreatDoor
set_option linter.unusedSimpArgs false
set_option linter.unusedVariables false
set_option maxRecDepth 100000
open Go.ChangeShapes Go.WideShapes Go.ChangeAt Go.RowKit Go.Pin Go.Pat Go.Deep
/-- an answered pattern -/
structure AP where
  v0 : Value
  v1 : Value
  vl : Value
  p : Pt
  fs : List Lv
  lo : Nat
  hi : Nat
def AP.ok (a : AP) (w : World) : Prop := OwI a.lo a.hi a.v0 a.v1 a.vl a.p a.fs w
def AP.cs (a : AP) : List Value := [.string a.p.nm, a.v0, a.v1, a.vl]
def pcs (A : List AP) : List Value := A.flatMap AP.cs
theorem pcs_snoc (A : List AP) (a : AP) : pcs (A ++ [a]) = pcs A ++ a.cs := by simp [pcs]
theorem pcs_len (A : List AP) : (pcs A).length = A.length * 4 := by
  induction A with
  | nil => rfl
  | cons a A ih => simp [pcs, AP.cs] at ih ⊢; omega
/-- answered patterns in a row, each in an interval of its own -/
structure AL (q : Nat) (vo : Value) (A : List AP) (w : World) : Prop where
  ro : w.ownsRow q 26 4 vo A.length (pcs A)
  ok : ∀ a ∈ A, a.ok w
  ds : A.Pairwise (fun a b => a.hi ≤ b.lo)
  ge : ∀ a ∈ A, q ≤ a.lo
  ou : ∀ g, vo.ownBlock = some g → ∀ a ∈ A, g < a.lo ∨ a.hi ≤ g
theorem AP.ok.keep {a : AP} {w w' : World} (h : a.ok w) (hk : ∀ k, a.lo ≤ k → k < a.hi → w'.heap[k]? = w.heap[k]?) (hz : w.heap.size ≤ w'.heap.size) : a.ok w' := OwI.keep h hk hz
theorem AP.ok.hz {a : AP} {w : World} (h : a.ok w) : a.hi ≤ w.heap.size := h.2.2.2.2
theorem AL.keep {q : Nat} {vo : Value} {A : List AP} {w w' : World} (h : AL q vo A w) (hr : ∀ g, vo.ownBlock = some g → w'.heap[g]? = w.heap[g]?) (hk : ∀ a ∈ A, ∀ k, a.lo ≤ k → k < a.hi → w'.heap[k]? = w.heap[k]?) (hz : w.heap.size ≤ w'.heap.size) : AL q vo A w' :=
  ⟨own_keep h.ro hr, fun a ha => (h.ok a ha).keep (hk a ha) hz, h.ds, h.ge, h.ou⟩
theorem AL.below {q : Nat} {vo : Value} {A : List AP} {w w' : World} (h : AL q vo A w) (hb : Below w.heap.size w w') : AL q vo A w' :=
  h.keep (fun g hg => hb.block g (h.ro.lt g hg).2) (fun a ha k _ hk => hb.block k (by have := (h.ok a ha).hz; omega)) hb.size
theorem parts_pt : (Tryz.prog.info? 26).map (fun i => (i.zero, i.size, i.bytes)) = some (some (.agg zPR), 4, 88) := by kernel_rfl
theorem AL.app {q : Nat} {vo : Value} {A : List AP} {y : World} (h : AL q vo A y) {a : AP} (ha : a.ok y) (hlo : ∀ g, vo.ownBlock = some g → g < a.lo) (hA : ∀ x ∈ A, x.hi ≤ a.lo) (hq : q ≤ a.lo) (hn : A.length ≤ 1000) :
    ∀ ty, ∃ v' w', (Builtin.append_ #[31, 31] ty #[vo, .slice (some ⟨y.heap.size, 0, none⟩) 1 1]).run Tryz.prog (y.alloc (.cells #[.string a.p.nm, a.v0, a.v1, a.vl] 26)) = .ok v' w' ∧ (AL q v' (A ++ [a]) w' ∧ (∃ a' c, v' = .slice a' (A.length + 1) c) ∧ (∀ k, k < y.heap.size → vo.ownBlock ≠ some k → w'.heap[k]? = y.heap[k]?) ∧ Below q y w' ∧ (∀ g, v'.ownBlock = some g → vo.ownBlock = some g ∨ y.heap.size ≤ g)) := fun ty => by
  have hb : Below y.heap.size y (y.alloc (.cells #[.string a.p.nm, a.v0, a.v1, a.vl] 26)) := (Below.refl _ _).alloc (Nat.le_refl _) _
  have h1 := h.below hb
  have ha1 : a.ok (y.alloc (.cells #[.string a.p.nm, a.v0, a.v1, a.vl] 26)) := ha.keep (fun k _ hk => hb.block k (by have := ha.hz; omega)) hb.size
  have hqy : q ≤ y.heap.size := by have := ha.2.2.2; omega
  obtain ⟨⟨x0, z0, e0⟩, ⟨x1, z1, e1⟩, ⟨xl, zl, el⟩, _⟩ := ha.1.sl
  obtain ⟨v', w', hr, h2, h3, h4⟩ := own_app Tryz.underlying31 parts_pt rfl (by decide) h1.ro (news := [.string a.p.nm, a.v0, a.v1, a.vl]) (heap_alloc_new y _) rfl (fun u hu => by rw [e0, e1, el] at hu; simp at hu; rcases hu with rfl | rfl | rfl | rfl <;> rfl) (by omega) (by omega) (by have := hb.size; omega) ty
  have hk : ∀ k, k < y.heap.size → vo.ownBlock ≠ some k → w'.heap[k]? = y.heap[k]? := fun k hk1 hk2 => (h3.block k (by have := hb.size; omega) (fun e => hk2 e.symm)).trans (hb.block k hk1)
  have hz : y.heap.size ≤ w'.heap.size := Nat.le_trans hb.size h3.size
  have hnew : ∀ g, v'.ownBlock = some g → vo.ownBlock = some g ∨ y.heap.size ≤ g := fun g hg => by
    rcases h4 with h4 | h4
    · exact .inl (by rw [← h4]; exact hg)
    · rw [h4] at hg
      injection hg with hg
      have := hb.size
      exact .inr (by omega)
  have hkA : ∀ x ∈ A, ∀ k, x.lo ≤ k → k < x.hi → w'.heap[k]? = y.heap[k]? := fun x hx k k1 k2 => hk k (by have := (h.ok x hx).hz; omega) (fun e => by rcases h.ou k e x hx with h | h <;> omega)
  refine ⟨v', w', hr, ⟨by rw [pcs_snoc, List.length_append]; exact h2, fun x hx => ?_, ?_, fun x hx => ?_, fun g hg x hx => ?_⟩, ?_, hk, (hb.mono hqy).grown h3 (by have := hb.size; omega) (fun k hk => (h.ro.lt k hk).1), hnew⟩
  · rcases List.mem_append.1 hx with hx | hx
    · exact (h.ok x hx).keep (hkA x hx) hz
    · obtain rfl := List.mem_singleton.1 hx
      exact ha.keep (fun k k1 k2 => hk k (by have := ha.hz; omega) (fun e => by have := hlo k e; omega)) hz
  · rw [List.pairwise_append]
    exact ⟨h.ds, List.pairwise_singleton _ _, fun x hx b hb => by obtain rfl := List.mem_singleton.1 hb; exact hA x hx⟩
  · rcases List.mem_append.1 hx with hx | hx
    · exact h.ge x hx
    · obtain rfl := List.mem_singleton.1 hx
      exact hq
  · rcases hnew g hg with h5 | h5
    · rcases List.mem_append.1 hx with hx | hx
      · exact h.ou g h5 x hx
      · obtain rfl := List.mem_singleton.1 hx
        exact .inl (hlo g h5)
    · rcases List.mem_append.1 hx with hx | hx
      · exact .inr (by have := (h.ok x hx).hz; omega)
      · obtain rfl := List.mem_singleton.1 hx
        exact .inr (by have := ha.hz; omega)
  · exact own_slice' h2
/-- asked's state: the row and its box -/
structure AK (nb q : Nat) (w0 : World) (vo : Value) (A : List AP) (w : World) : Prop where
  al : AL q vo A w
  bx : w.heap[nb]? = some (.cells #[vo] 31)
  old : Below q w0 w
  nq : q ≤ nb
  na : ∀ a ∈ A, nb < a.lo ∨ a.hi ≤ nb
  no : ∀ g, vo.ownBlock = some g → g ≠ nb
theorem AK.below {nb q : Nat} {w0 : World} {vo : Value} {A : List AP} {w w' : World} (h : AK nb q w0 vo A w) (hb : Below w.heap.size w w') : AK nb q w0 vo A w' := by
  have hl : nb < w.heap.size := (Array.getElem?_eq_some_iff.1 h.bx).1
  exact ⟨h.al.below hb, (hb.block nb hl).trans h.bx, h.old.trans (hb.mono (by have := h.nq; omega)), h.nq, h.na, h.no⟩
set_option maxHeartbeats 8000000 in
theorem asked1_any {nb q : Nat} {w0 : World} {vo : Value} {A : List AP} {a : AP} {W : World} (h : AK nb q w0 vo A W) (ha : a.ok W) (hlo : ∀ g, vo.ownBlock = some g → g < a.lo) (hA : ∀ x ∈ A, x.hi ≤ a.lo) (hnb : nb < a.lo) (hn : A.length ≤ 1000) :
    Calls Tryz.prog 19 #[.agg #[.string a.p.nm, a.v0, a.v1, a.vl], .pointer (some ⟨nb, 0, none⟩)] W fun e W' => e = .returned (.bool (decide (A.length + 1 < 12))) ∧ (∃ vo', AK nb q w0 vo' (A ++ [a]) W') ∧ W.heap.size ≤ W'.heap.size ∧ ∀ k, k < W.heap.size → k ≠ nb → vo.ownBlock ≠ some k → W'.heap[k]? = W.heap[k]? := by
  have hb : Below W.heap.size W (W.alloc (.cells #[.string a.p.nm, a.v0, a.v1, a.vl] 26)) := (Below.refl _ _).alloc (Nat.le_refl _) _
  have hr := heap_alloc_new W (.cells #[.string a.p.nm, a.v0, a.v1, a.vl] 26)
  have h1 := h.below hb
  have ha1 : a.ok (W.alloc (.cells #[.string a.p.nm, a.v0, a.v1, a.vl] 26)) := ha.keep (fun k _ hk => hb.block k (by have := ha.hz; omega)) hb.size
  have happ := h1.al.app ha1 hlo hA (by have := h.nq; omega) hn
  obtain ⟨b, hbq⟩ : ∃ b, W.heap.size = b := ⟨_, rfl⟩
  obtain ⟨W1, hW1⟩ : ∃ W1, W.alloc (.cells #[.string a.p.nm, a.v0, a.v1, a.vl] 26) = W1 := ⟨_, rfl⟩
  obtain ⟨n, hnA⟩ : ∃ n, A.length = n := ⟨_, rfl⟩
  obtain ⟨x, c, rfl⟩ := own_slice' h.al.ro
  simp only [hbq, hW1, hnA] at hb hr h1 ha1 happ hn h ⊢
  have k0 := cell_of_row _ _ 0 _ _ _ hr
  have k1 := cell_of_row _ _ 1 _ _ _ hr
  have k2 := cell_of_row _ _ 2 _ _ _ hr
  have k3 := cell_of_row _ _ 3 _ _ _ hr
  simp at k0 k1 k2 k3
  have z0 : W1.cell? ⟨nb, 0, none⟩ = some (.slice x n c) := cell_of_row _ _ 0 _ _ _ h1.bx
  have H1 : Hid (AK nb q w0 (.slice x n c) A W1 ∧ nb < W1.heap.size ∧ W.heap.size ≤ W1.heap.size ∧ nb < W.heap.size ∧ A.length = n ∧ n ≤ 1000) := ⟨h1, (Array.getElem?_eq_some_iff.1 h1.bx).1, hb.size, (Array.getElem?_eq_some_iff.1 h.bx).1, hnA, hn⟩
  have HB : Hid (Below W.heap.size W W1 ∧ nb < a.lo ∧ W.heap.size = b) := ⟨by rw [hbq]; exact hb, hnb, hbq⟩
  have HAPP : Hid (∀ ty, ∃ v' w', (Builtin.append_ #[31, 31] ty #[.slice x n c, .slice (some ⟨W1.heap.size, 0, none⟩) 1 1]).run Tryz.prog (W1.alloc (.cells #[.string a.p.nm, a.v0, a.v1, a.vl] 26)) = .ok v' w' ∧ (AL q v' (A ++ [a]) w' ∧ (∃ a' c, v' = .slice a' (n + 1) c) ∧ (∀ k, k < W1.heap.size → (Value.slice x n c).ownBlock ≠ some k → w'.heap[k]? = W1.heap[k]?) ∧ Below q W1 w' ∧ (∀ g, v'.ownBlock = some g → (Value.slice x n c).ownBlock = some g ∨ W1.heap.size ≤ g))) := happ
  clear h hlo hA hr h1 ha1 happ hnA hb ha hnb
  have b0 : (n : Int) ≤ 1000 := by omega
  have b1 : (0 : Int) ≤ (n : Int) := by omega
  have HD : Hid (decide (n + 1 < 12) = decide ((n : Int) + 1 < 12)) := by
    show _ = _
    rw [Bool.eq_iff_iff]
    simp only [decide_eq_true_eq]
    omega
  clear hn
  go_enter Tryz.func19, Tryz.ntmps19
  go_upto_region 2 with (at_builtin; go_loud (refine wpList_app _ rfl _ _ 31 31 rfl _ _ rfl rfl HAPP.out ?_; rintro v7 w7 ⟨hal7, ⟨a7, c7, rfl⟩, hk7, hb7, hn7⟩; have hx7 : w7.heap[nb]? = some (.cells #[.slice x n c] 31) := ((hk7 nb H1.out.2.1 (fun e => H1.out.1.no nb e rfl)).trans H1.out.1.bx); have H7 : Hid (AL q (.slice a7 (n + 1) c7) (A ++ [a]) w7 ∧ (∀ k, k < W1.heap.size → (Value.slice x n c).ownBlock ≠ some k → w7.heap[k]? = W1.heap[k]?) ∧ Below q W1 w7 ∧ (∀ g, (Value.slice a7 (n + 1) c7).ownBlock = some g → (Value.slice x n c).ownBlock = some g ∨ W1.heap.size ≤ g) ∧ w7.heap[nb]? = some (.cells #[.slice x n c] 31)) := ⟨hal7, hk7, hb7, hn7, hx7⟩; have x7 : w7.cell? ⟨nb, 0, none⟩ = some (.slice x n c) := cell_of_row _ _ 0 _ _ _ hx7; have f7 : w7.frozen? ⟨nb, 0, none⟩ = false := frozen_of_row _ _ _ _ _ hx7; clear hal7 hk7 hb7 hn7 hx7))
  have hset : AL q (.slice a7 (n + 1) c7) (A ++ [a]) (w7.setCell ⟨nb, 0, none⟩ (.slice a7 (n + 1) c7)) := by
    have ho : ∀ g, g ≠ nb → (w7.setCell ⟨nb, 0, none⟩ (.slice a7 (n + 1) c7)).heap[g]? = w7.heap[g]? := fun g hg => heap_setCell_other _ _ _ _ hg
    refine H7.out.1.keep (fun g hg => ho g ?_) (fun x' hx k k1 k2 => ho k ?_) (by rw [World.size_setCell]; exact Nat.le_refl _)
    · rcases H7.out.2.2.2.1 g hg with h | h
      · exact H1.out.1.no g h
      · have := H1.out.2.1; omega
    · rcases List.mem_append.1 hx with hx | hx
      · rcases H1.out.1.na x' hx with h | h <;> omega
      · obtain rfl := List.mem_singleton.1 hx
        have := HB.out.2.1
        omega
  have HS : Hid (AK nb q w0 (.slice a7 (n + 1) c7) (A ++ [a]) (w7.setCell ⟨nb, 0, none⟩ (.slice a7 (n + 1) c7)) ∧ W.heap.size ≤ (w7.setCell ⟨nb, 0, none⟩ (.slice a7 (n + 1) c7)).heap.size ∧ ∀ k, k < W.heap.size → k ≠ nb → (Value.slice x n c).ownBlock ≠ some k → (w7.setCell ⟨nb, 0, none⟩ (.slice a7 (n + 1) c7)).heap[k]? = W.heap[k]?) := by
    refine ⟨⟨hset, heap_setCell_same w7 _ _ _ _ _ H7.out.2.2.2.2, H1.out.1.old.trans (H7.out.2.2.1.setCell (p := ⟨nb, 0, none⟩) H1.out.1.nq _), H1.out.1.nq, fun x' hx => ?_, fun g hg => ?_⟩, ?_, fun k k1 k2 k3 => ?_⟩
    · rcases List.mem_append.1 hx with hx | hx
      · exact H1.out.1.na x' hx
      · obtain rfl := List.mem_singleton.1 hx
        exact .inl HB.out.2.1
    · rcases H7.out.2.2.2.1 g hg with h | h
      · exact H1.out.1.no g h
      · have := H1.out.2.1; omega
    · rw [World.size_setCell]
      exact Nat.le_trans HB.out.1.size H7.out.2.2.1.size
    · exact (heap_setCell_other _ _ _ _ k2).trans ((H7.out.2.1 k (by have := HB.out.1.size; omega) k3).trans (HB.out.1.block k k1))
  have z7 : (w7.setCell ⟨nb, 0, none⟩ (.slice a7 (n + 1) c7)).cell? ⟨nb, 0, none⟩ = some (.slice a7 (n + 1) c7) := cell_of_row _ _ 0 _ _ _ HS.out.1.bx
  obtain ⟨w8, hw8⟩ : ∃ w8, w7.setCell ⟨nb, 0, none⟩ (.slice a7 (n + 1) c7) = w8 := ⟨_, rfl⟩
  rw [hw8] at HS z7 ⊢
  clear hset hw8 x7 f7 z0 k0 k1 k2 k3
  go_wp2
  go_ret
  exact ⟨by rw [HD.out]; rfl, ⟨_, HS.out.1⟩, by rw [← HB.out.2.2]; exact HS.out.2⟩
end Go.Proofs.YtpfidohkohldaaaGreatDoor
namespace Go.Proofs.YtpfidohkohldaaaGreatDoor
set_option linter.unusedSimpArgs false
set_option linter.unusedVariables false
open Go.ChangeShapes Go.WideShapes Go.ChangeAt Go.RowKit Go.Pin Go.Pat
set_option maxRecDepth 100000 in
set_option maxHeartbeats 2000000 in
theorem ints_true {W : World} {u v : Value} {C : List Int} (hu : RdN W u C) (hv : RdN W v C) :
    Calls Tryz.prog 20 #[u, v] W fun e w' => e = .returned (.bool true) ∧ Below W.heap.size W w' := by
  obtain ⟨a, ca, rfl, -, -, -⟩ := id hu
  obtain ⟨b, cb, rfl, -, -, -⟩ := id hv
  obtain ⟨-, hal, hua⟩ := hu.at
  obtain ⟨-, hbl, hvb⟩ := hv.at
  obtain ⟨q, hq⟩ : ∃ q, W.heap.size = q := ⟨_, rfl⟩
  obtain ⟨n, hnl⟩ : ∃ n, C.length = n := ⟨_, rfl⟩
  rw [hnl] at hua hvb hal
  rw [hnl]
  have HN : Hid (n ≤ 140737488355328) := hal
  have HA : Hid _ := hua
  have HB : Hid _ := hvb
  rw [hq]
  clear hu hv hua hvb hbl hal hnl
  go_enter Tryz.func20, Tryz.ntmps20
  go_wp2
  go_loopw [5] (fun v5 wr => ∃ i : Nat, i ≤ n ∧ v5 = .int .i64 i ∧ Below q W wr) (fun v _ => n - (intOf v).toNat)
  case atStart => exact ⟨0, Nat.zero_le _, rfl, Below.refl _ _⟩
  case round =>
    obtain ⟨i, hi, rfl, hp⟩ := hrel
    have HP : Hid (Below q W wr) := hp
    by_cases hlt : i < n
    · have b1 : (i : Int) < (n : Int) := by omega
      obtain ⟨g, o, rfl, h1⟩ := HA.out i hlt
      obtain ⟨g', o', rfl, h2⟩ := HB.out i hlt
      have c := h1 wr (by rw [hq]; exact hp)
      have d := h2 wr (by rw [hq]; exact hp)
      generalize C.getD i 0 = x at *
      clear h1 h2 hp
      go_wp2
      go_quiet (fail)
      go_wp2
      exact ⟨⟨i + 1, hlt, congrArg (Value.int .i64) (wrapS hlt HN.out), drewN_below HP.out _⟩, measS hlt HN.out⟩
    · have b1 : ¬ (i : Int) < (n : Int) := by omega
      clear hp
      go_wp2
      go_ret
      exact ⟨rfl, HP.out⟩
theorem pb2 {q : Nat} {w wr : World} {nm nm' : ByteArray} {v0 v1 vl v0' v1' vl' : Value} (h : PB q w nm v0 v1 vl wr) : PB q w nm v0 v1 vl (wr.alloc (.cells #[.string nm', v0', v1', vl'] 26)) := h.below ((Below.refl _ _).alloc (Nat.le_refl _) _)
set_option maxRecDepth 100000 in
set_option maxHeartbeats 4000000 in
theorem same_true {W : World} {u v : Value} {p : Pt} (hu : RdP W u p) (hv : RdP W v p) :
    Calls Tryz.prog 8 #[u, v] W fun e w' => e = .returned (.bool true) ∧ Below W.heap.size W w' := by
  obtain ⟨v0, v1, vl, rfl, h0, h1, hl⟩ := hu
  obtain ⟨u0, u1, ul, rfl, g0, g1, gl⟩ := hv
  obtain ⟨a0, p0, rfl, -, -, -⟩ := id h0
  obtain ⟨a1, p1, rfl, -, -, -⟩ := id h1
  obtain ⟨al, cl, rfl, -, hll, -⟩ := id hl
  obtain ⟨e0, k0, rfl, -, -, -⟩ := id g0
  obtain ⟨e1, k1, rfl, -, -, -⟩ := id g1
  obtain ⟨el, kl, rfl, -, -, -⟩ := id gl
  have hst := pb_start W p.nm (.slice a0 p.b0.length p0) (.slice a1 p.b1.length p1) (.slice al p.ln.length cl)
  have hb1 : Below W.heap.size W (W.alloc (.cells #[.string p.nm, .slice a0 p.b0.length p0, .slice a1 p.b1.length p1, .slice al p.ln.length cl] 26)) := hst.old
  have hs2 := pb_start (W.alloc (.cells #[.string p.nm, .slice a0 p.b0.length p0, .slice a1 p.b1.length p1, .slice al p.ln.length cl] 26)) p.nm (.slice e0 p.b0.length k0) (.slice e1 p.b1.length k1) (.slice el p.ln.length kl)
  have hst2 := hst.below hs2.old
  have hb2 := hb1.trans (hs2.old.mono hb1.size)
  have hH0 := fun Y (hY : Below W.heap.size W Y) => ints_true (h0.below hY) (g0.below hY)
  have hH1 := fun Y (hY : Below W.heap.size W Y) => ints_true (h1.below hY) (g1.below hY)
  have hHL := fun Y (hY : Below W.heap.size W Y) => hl.below hY
  have hGL := fun Y (hY : Below W.heap.size W Y) => gl.below hY
  obtain ⟨q, hq⟩ : ∃ q, W.heap.size = q := ⟨_, rfl⟩
  obtain ⟨nm, hnm⟩ : ∃ nm, p.nm = nm := ⟨_, rfl⟩
  obtain ⟨x0, hx0⟩ : ∃ x0, Value.slice a0 p.b0.length p0 = x0 := ⟨_, rfl⟩
  obtain ⟨x1, hx1⟩ : ∃ x1, Value.slice a1 p.b1.length p1 = x1 := ⟨_, rfl⟩
  obtain ⟨y0, hy0⟩ : ∃ y0, Value.slice e0 p.b0.length k0 = y0 := ⟨_, rfl⟩
  obtain ⟨y1, hy1⟩ : ∃ y1, Value.slice e1 p.b1.length k1 = y1 := ⟨_, rfl⟩
  obtain ⟨L, hLn⟩ : ∃ L, p.ln.length = L := ⟨_, rfl⟩
  have hsz : (W.alloc (.cells #[.string p.nm, .slice a0 p.b0.length p0, .slice a1 p.b1.length p1, .slice al p.ln.length cl] 26)).heap.size = q + 1 := by rw [size_alloc, hq]
  rw [hsz] at hs2
  simp only [hq, hnm, hx0, hx1, hy0, hy1, hLn] at hst2 hs2 hb2 hH0 hH1 hHL hGL hll ⊢
  obtain ⟨W1, hW1⟩ : ∃ W1, W.alloc (.cells #[.string nm, x0, x1, .slice al L cl] 26) = W1 := ⟨_, rfl⟩
  simp only [hW1] at hst2 hs2 hb2
  obtain ⟨W2, hW2⟩ : ∃ W2, W1.alloc (.cells #[.string nm, y0, y1, .slice el L kl] 26) = W2 := ⟨_, rfl⟩
  simp only [hW2] at hst2 hs2 hb2
  have hz1 : W1.heap.size = q + 1 := by rw [← hW1, size_alloc, hq]
  have HI0 : Hid _ := hH0
  have HI1 : Hid _ := hH1
  have HHL : Hid _ := hHL
  have HGL : Hid _ := hGL
  have HP : Hid (PB q W nm x0 x1 (.slice al L cl) W2) := hst2
  have HQ : Hid (PB (q + 1) W1 nm y0 y1 (.slice el L kl) W2) := hs2
  have HB : Hid (Below q W W2) := hb2
  have HL : Hid (L ≤ 140737488355328 ∧ p.ln.length = L) := ⟨hll, hLn⟩
  have c0 := hst2.c0
  have c1 := hst2.c1
  have c2 := hst2.c2
  have c3 := hst2.c3
  have d0 := hs2.c0
  have d1 := hs2.c1
  have d2 := hs2.c2
  have d3 := hs2.c3
  have CI0 := HI0.out W2 HB.out
  clear hst hst2 hs2 hb1 hb2 hH0 hH1 hHL hGL hll h0 h1 hl g0 g1 gl hx0 hx1 hy0 hy1 hLn hnm hsz
  go_enter Tryz.func8, Tryz.ntmps8
  go_upto_region 3 with (first
    | (go_at_call 20; refine Calls.mono CI0 ?_; rintro e w1 ⟨rfl, hb⟩; have HP1 : Hid (PB q W nm x0 x1 (.slice al L cl) w1) := HP.out.below hb; have HQ1 : Hid (PB (q + 1) W1 nm y0 y1 (.slice el L kl) w1) := HQ.out.below hb; have HB1 : Hid (Below q W w1) := HP1.out.old; clear hb c0 c1 c2 c3 d0 d1 d2 d3 CI0; have c0 := HP1.out.c0; have c1 := HP1.out.c1; have c2 := HP1.out.c2; have c3 := HP1.out.c3; have d0 := HQ1.out.c0; have d1 := HQ1.out.c1; have d2 := HQ1.out.c2; have d3 := HQ1.out.c3; have CI1 := HI1.out w1 HB1.out)
    | (go_at_call 20; refine Calls.mono CI1 ?_; rintro e w2 ⟨rfl, hb⟩; have HP2 : Hid (PB q W nm x0 x1 (.slice al L cl) w2) := HP1.out.below hb; have HQ2 : Hid (PB (q + 1) W1 nm y0 y1 (.slice el L kl) w2) := HQ1.out.below hb; clear hb c0 c1 c2 c3 d0 d1 d2 d3 CI1; have c3 := HP2.out.c3; have d3 := HQ2.out.c3))
  clear c3 d3
  go_wp2
  go_loopw [5] (fun v5 wr => ∃ i : Nat, i ≤ L ∧ v5 = .int .i64 i ∧ PB q W nm x0 x1 (.slice al L cl) wr ∧ PB (q + 1) W1 nm y0 y1 (.slice el L kl) wr) (fun v _ => L - (intOf v).toNat)
  case atStart => exact ⟨0, Nat.zero_le _, rfl, HP2.out, HQ2.out⟩
  case round =>
    obtain ⟨i, hi, rfl, hp, hqq⟩ := hrel
    have HPR : Hid (PB q W nm x0 x1 (.slice al L cl) wr) := hp
    have HQR : Hid (PB (q + 1) W1 nm y0 y1 (.slice el L kl) wr) := hqq
    have c3 := hp.c3
    have d3 := hqq.c3
    by_cases hlt : i < L
    · have b1 : (i : Int) < (L : Int) := by omega
      obtain ⟨b, o, a2, n2, c2, rfl, hc, hn, hn2⟩ := (HHL.out wr hp.old).at hlt
      obtain ⟨b', o', a2', n2', c2', rfl, hc', hn', hn2'⟩ := (HGL.out wr hp.old).at hlt
      have en : n2' = n2 := by rw [hn2, hn2']
      subst en
      have HII : Hid (∀ Y, Below wr.heap.size wr Y → _) := fun Y hY => ints_true (hn.below hY) (hn'.below hY)
      have HC : Hid _ := hc
      have HC' : Hid _ := hc'
      generalize (p.ln.getD i (0, [])).1 = f at *
      clear hc hc' hn hn' hp hqq hn2 hn2'
      go_wp2
      refine Go.Pin.wp_region_cls (fun Y => Below wr.heap.size wr Y) (by kernel_rfl) (by kernel_rfl) ((Below.refl _ _).drew) ?_
      intro Sq fq hNq hRq hSq
      have z0 := fun x => (HPR.out.below (hRq x)).c3
      have z1 := fun x => (HQR.out.below (hRq x)).c3
      have k0 := fun x => (HC.out _ (hRq x)).1
      have k1 := fun x => (HC.out _ (hRq x)).2
      have l0 := fun x => (HC'.out _ (hRq x)).1
      have l1 := fun x => (HC'.out _ (hRq x)).2
      have CF := fun x => HII.out (fq x) (hRq x)
      repeat (go_big_quiet_step (exact (CF _).mono (fun e w' h => ⟨h.1, hSq _ ((hRq _).trans (h.2.mono (hRq _).size))⟩)))
      refine wpQuiet_nil ?_
      intro _ hw'
      obtain ⟨xq, hw''⟩ := hw'
      subst hw''
      have HYq := hRq xq
      generalize fq xq = Y at HYq ⊢
      clear hRq hSq hNq xq fq Sq z0 z1 k0 k1 l0 l1 CF c3 d3
      have HY : Hid (Below wr.heap.size wr Y) := HYq
      clear HYq
      go_wp2
      exact ⟨⟨i + 1, hlt, congrArg (Value.int .i64) (wrapS hlt HL.out.1), HPR.out.below HY.out, HQR.out.below HY.out⟩, measS hlt HL.out.1⟩
    · have b1 : ¬ (i : Int) < (L : Int) := by omega
      clear hp hqq
      go_wp2
      go_ret
      exact ⟨rfl, HPR.out.old⟩
end Go.Proofs.YtpfidohkohldaaaGreatDoor
/- as wp_region_cls, for a long region: the lexical walk looks at no edge and no place of the text: both are taken off first; of no dump -/
namespace Go.Pin
def bare (o : Oper) : Oper := { dst := o.dst, op := o.op, type := o.type, pos := "", after := #[], guard := o.guard }
theorem yielded_bare (ops : Array Oper) (t : Array Value) : yielded (ops.map bare) t = yielded ops t := by
  funext j
  unfold yielded
  rw [Array.getElem?_map]
  cases ops[j]? <;> rfl
theorem quiet_bare {P : Program} {o : Oper} {a : Act} {C : World → Prop} {K K' : Act → Prop} (h : (bare o).quiet P a C K') (hk : ∀ a, K' a → K a) : o.quiet P a C K := by
  obtain ⟨v, h1, h2⟩ := h
  exact ⟨v, h1, hk _ h2⟩
theorem wpQuiet_bare {P : Program} {ops : Array Oper} {C : World → Prop} {Q : Act → Prop} : ∀ (l : List Oper) (a : Act), wpQuiet P (ops.map bare) C Q (l.map bare) a → wpQuiet P ops C Q l a
  | [], a, h => h
  | o :: r, a, h => by
    rw [List.map_cons] at h
    unfold wpQuiet at h ⊢
    rw [yielded_bare] at h
    have e : Region.wanted (bare o) (yielded ops a.tmps) = Region.wanted o (yielded ops a.tmps) := rfl
    rw [e] at h
    by_cases hw : Region.wanted o (yielded ops a.tmps) = true
    · rw [if_pos hw] at h ⊢
      exact quiet_bare h (fun a' => wpQuiet_bare r a')
    · rw [if_neg hw] at h ⊢
      exact wpQuiet_bare r _ h
theorem wp_region_clb {P : Program} (R : World → Prop) {id : Nat} {Q : Exit → Act → World → Prop} {a : Act} {w : World} {l : List Oper} (hm : P.follows .mixedOrders = true) (hB : Region.lexB .any l.toArray = true) (hC : R { w with drawn := w.drawn + 1 })
    (h : ∀ (S : Type) (f : S → World), Nonempty S → (∀ x, R (f x)) → (∀ Y, R Y → ∃ x, Y = f x) → wpQuiet P (l.map bare).toArray (fun w' => ∃ x, w' = f x) (fun a' => ∀ w', (∃ x, w' = f x) → Q .normal a' w') (l.map bare) a) : (Code.region id l.toArray true).wp P Q a w := by
  have := h {w // R w} Subtype.val ⟨⟨_, hC⟩⟩ (fun x => x.2) (fun Y hY => ⟨⟨Y, hY⟩, rfl⟩)
  refine wp_region_quiet (C := fun w' => ∃ x : {w // R w}, w' = x.val) hm hB ⟨⟨_, hC⟩, rfl⟩ ?_
  have e : (l.map bare).toArray = (l.toArray).map bare := by simp
  rw [e] at this
  exact wpQuiet_bare _ _ (by simpa using this)
end Go.Pin
