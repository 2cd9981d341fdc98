import Derived.Recover
import Derived.Defers
import Derived.Ground.Names2Prog
import Derived.Shelf.Spec.SlicesInsert
import Derived.Shelf.Spec.SlicesInsertGrow
import Derived.Ground.SlgnProg
import Derived.Shelf.SlicesE.Clone
import Derived.Ground.Names8Prog
import Derived.Shelf.Spec.SlicesGrow
import Derived.Test.YtpfidohkohldaaaGreatDoorProg
import Derived.Test.YtpfidohkohldaaaGreatDoorMqas
import Derived.Test.YtpfidohkohldaaaGreatDoorMqaq
namespace Go.Proofs.YtpfidohkohldaaaGreatDoor
set_option linter.unusedSimpArgs false
set_option linter.unusedVariables false
set_option maxRecDepth 100000
open Go.ChangeShapes Go.WideShapes Go.ChangeAt Go.RowKit Go.Pin Go.Pat Go.Deep
abbrev zPR : Array Value := #[.string ⟨#[]⟩, .slice none 0 0, .slice none 0 0, .slice none 0 0]
theorem ipR (a b c d : Value) : (Tryz.prog.info? 26).map (·.size) = some (#[a, b, c, d] : Array Value).size := by kernel_rfl
/-- the two results' boxes -/
structure PX (n : Nat) (w : World) (cs : Array Value) (e : Value) (wr : World) : Prop where
  old : Below n w wr
  sz : n + 2 ≤ wr.heap.size
  hp : wr.heap[n]? = some (.cells cs 26)
  he : wr.heap[n + 1]? = some (.cells #[e] 45)
theorem PX.row {n : Nat} {w wr : World} {cs cs' : Array Value} {e : Value} (h : PX n w cs e wr) (hc : cs'.size = cs.size) : PX n w cs' e (wr.setRow n cs') :=
  ⟨below_setRow h.old _ (Nat.le_refl _) _, by rw [size_setRow]; exact h.sz, setRow_heap _ _ _ _ _ _ h.hp, (setRow_other _ _ _ _ (by omega)).trans h.he⟩
theorem PX.er {n : Nat} {w wr : World} {cs : Array Value} {e e' : Value} (h : PX n w cs e wr) : PX n w cs e' (wr.setCell ⟨n + 1, 0, none⟩ e') := by
  refine ⟨h.old.setCell (p := ⟨n + 1, 0, none⟩) (Nat.le_succ _) _, by rw [World.size_setCell]; exact h.sz, ?_, ?_⟩
  · exact (Go.heap_setCell_other _ _ _ _ (by show n ≠ n + 1; omega)).trans h.hp
  · rw [Go.heap_setCell_same _ _ _ _ _ _ h.he]
    rfl
theorem PX.below {n : Nat} {w wr w' : World} {cs : Array Value} {e : Value} (h : PX n w cs e wr) (hb : Below wr.heap.size wr w') : PX n w cs e w' :=
  ⟨h.old.trans (hb.mono (by have := h.sz; omega)), Nat.le_trans h.sz hb.size, (hb.block n (by have := h.sz; omega)).trans h.hp, (hb.block _ (by have := h.sz; omega)).trans h.he⟩
theorem PX.up {n r : Nat} {w wr w' : World} {cs : Array Value} {e : Value} (h : PX n w cs e wr) (hr : n + 2 ≤ r) (hb : Up r wr w') : PX n w cs e w' :=
  ⟨h.old.trans (hb.to (by omega) (by have := h.sz; omega)), Nat.le_trans h.sz hb.size, (hb.block n (by have := h.sz; omega) (by omega)).trans h.hp, (hb.block _ (by have := h.sz; omega) (by omega)).trans h.he⟩
set_option maxHeartbeats 4000000 in
theorem pcatch_panic {ea : Int → Addr} (n : Nat) (w0 w : World) (cs : Array Value) (ev : Value) (h4 : 4 = cs.size) (h : PX n w0 cs ev w) (hE : Errs ea w) (u : TypeId) (pv : Value) (older : List PanicEntry) :
    CallsD Tryz.prog 22 #[.pointer (some ⟨n, 0, none⟩), .pointer (some ⟨n + 1, 0, none⟩)] (.panicking ({ v := .iface u pv, recovered := false } :: older)) w fun e u' w' =>
      e = .returned (.tuple #[]) ∧ u' = .panicking ({ v := .iface u pv, recovered := true } :: older) ∧ PX n w0 zPR (EV ea 8) w' := by
  have e0 := (hE.1 8 (by decide)).1
  simp only [eblk] at e0
  have hrow := h.hp
  have H : Hid (PX n w0 cs ev w) := h
  have c0 : (w.setRow n zPR).frozen? ⟨n + 1, 0, none⟩ = false := frozen_of_row _ _ _ _ _ (h.row (cs' := zPR) h4).he
  have HX : Hid (PX n w0 zPR ev (w.setRow n zPR)) := h.row h4
  refine callsD_of_wpS Tryz.func22 rfl fun c₀ cs' hu => ?_
  apply wpS_seq
  apply wpS_region
  simp [wpOpsS, go_sem, recoverD, hu, Tryz.ntmps22, Exit.thenS]
  refine wpS_cond (t := true) (by simp [Act.eval, Array.replicate]) ?_
  simp only [if_true]
  show Code.wpS _ _ _ { tmps := #[.pointer (some ⟨n, 0, none⟩), .pointer (some ⟨n + 1, 0, none⟩), .iface u pv, .bool true, undef, undef], defers := [] } _ _
  refine wpS_of_wp ?_
  have H4 : Hid (4 = cs.size) := h4
  clear h h4
  go_wp2_with (with_reducible refine at_list ?_; refine hold_store 26 (.tmp 0) (.tmp 4) rfl ?_)
  refine wpList_store_row rfl 26 (.tmp 0) (.tmp 4) rfl n zPR rfl rfl 26 cs hrow (ipR _ _ _ _) H4.out.symm (by simp [zPR, Value.oneCell']) ?_
  have c1 : ∃ v, (w.setRow n zPR).cell? ⟨n + 1, 0, none⟩ = some v := ⟨_, by rw [cell_of_row _ _ _ _ _ _ HX.out.he]; rfl⟩
  obtain ⟨v1, c1⟩ := c1
  obtain ⟨X, hX⟩ : ∃ X, w.setRow n zPR = X := ⟨_, rfl⟩
  rw [hX] at c0 c1 HX ⊢
  clear hX hrow
  go_wp2
  refine ⟨rfl, _, rfl, .tuple #[], by simp [results, Tryz.results22], rfl, rfl, ?_⟩
  exact HX.out.er
theorem pcatch_idle (n : Nat) (w : World) :
    CallsD Tryz.prog 22 #[.pointer (some ⟨n, 0, none⟩), .pointer (some ⟨n + 1, 0, none⟩)] .returning w fun e u' w' => e = .returned (.tuple #[]) ∧ u' = .returning ∧ w' = w := by
  refine callsD_of_wpS Tryz.func22 rfl fun c₀ cs hu => ?_
  apply wpS_seq
  apply wpS_region
  simp [wpOpsS, go_sem, recoverD, hu, Tryz.ntmps22, Exit.thenS]
  refine wpS_cond (t := false) (by simp [Act.eval, Array.replicate]) ?_
  simp only [Bool.false_eq_true, if_false]
  refine wpS_of_wp (wp_skip ?_)
  cases c₀
  simp_all [bodyPostS, results, Tryz.results22]
end Go.Proofs.YtpfidohkohldaaaGreatDoor
namespace Go.Proofs.YtpfidohkohldaaaGreatDoor
set_option linter.unusedSimpArgs false
set_option linter.unusedVariables false
set_option maxRecDepth 100000
open Go.ChangeShapes Go.WideShapes Go.ChangeAt Go.RowKit Go.Pin Go.Pat Go.Deep
theorem ftp_zero (S : Nat → Prop) (w : World) : FtP S w (.slice none 0 0) (.slice none 0 0) (.slice none 0 0) zPt :=
  ⟨ft_nil _ _, ft_nil _ _, ⟨none, 0, rfl, Nat.le_refl _, by decide, fun j hj => absurd hj (Nat.not_lt_zero _)⟩⟩
def PsP (ea : Int → Addr) (t : ByteArray) (W : World) (e : Ending) (w' : World) : Prop :=
  Below W.heap.size W w' ∧ ∃ v0 v1 vl, e = .returned (.tuple #[.agg #[.string (prs t).1.nm, v0, v1, vl], EV ea (prs t).2]) ∧ FtP (fun b => W.heap.size ≤ b ∧ b < w'.heap.size) w' v0 v1 vl (prs t).1
theorem owp_zero (b : Nat) (w : World) : OwP b (.slice none 0 0) (.slice none 0 0) (.slice none 0 0) zPt w :=
  ⟨[], rfl, own_nil0 _ _ _ _, fun f hf => by simp at hf; rcases hf with rfl | rfl <;> exact own_nil0 _ _ _ _, by simp [obs, Value.ownBlock]⟩
/-- what Parse answers, its lists one's own -/
def PsO (ea : Int → Addr) (t : ByteArray) (W : World) (e : Ending) (w' : World) : Prop :=
  Below W.heap.size W w' ∧ ∃ v0 v1 vl, e = .returned (.tuple #[.agg #[.string (prs t).1.nm, v0, v1, vl], EV ea (prs t).2]) ∧ FtP (fun b => W.heap.size ≤ b ∧ b < w'.heap.size) w' v0 v1 vl (prs t).1 ∧ OwP W.heap.size v0 v1 vl (prs t).1 w'
theorem px_start (w : World) : PX w.heap.size w zPR .nilIface ((w.alloc (.cells zPR 26)).alloc (.cells #[.nilIface] 45)) := by
  refine ⟨((Below.refl _ _).alloc (Nat.le_refl _) _).alloc (by rw [size_alloc]; omega) _, by simp only [size_alloc]; omega, ?_, ?_⟩
  · rw [(((Below.refl _ (w.alloc (.cells zPR 26))).alloc (Nat.le_refl _) (.cells #[.nilIface] 45)).block w.heap.size (by rw [size_alloc]; omega))]
    exact heap_alloc_new _ _
  · have := heap_alloc_new (w.alloc (.cells zPR 26)) (.cells #[.nilIface] 45)
    rw [size_alloc] at this
    exact this
theorem PX.at {n : Nat} {w wr : World} {cs : Array Value} {e : Value} (h : PX n w cs e wr) (i : Nat) (v : Value) : PX n w (cs.setIfInBounds i v) e (wr.setCell ⟨n, i, none⟩ v) := by
  refine ⟨h.old.setCell (Nat.le_refl _) _, by rw [World.size_setCell]; exact h.sz, ?_, (heap_setCell_other _ _ _ _ (by show n + 1 ≠ n; omega)).trans h.he⟩
  rw [Go.heap_setCell_same _ _ _ _ _ _ h.hp]
theorem PX.drew {n : Nat} {w wr : World} {cs : Array Value} {e : Value} (h : PX n w cs e wr) : PX n w cs e wr.drew := ⟨h.old.drew, h.sz, h.hp, h.he⟩
theorem PX.c {n : Nat} {w wr : World} {cs : Array Value} {e : Value} (h : PX n w cs e wr) : wr.cell? ⟨n + 1, 0, none⟩ = some e := by rw [cell_of_row _ _ _ _ _ _ h.he]; rfl
theorem parse_res {n : Nat} {w wr : World} {a b c d e : Value} (h : PX n w #[a, b, c, d] e wr) (tmps : Array Value) (h2 : tmps.getD 2 undef = .pointer (some ⟨n, 0, none⟩)) (h3 : tmps.getD 3 undef = .pointer (some ⟨n + 1, 0, none⟩)) :
    (results Tryz.f12 tmps).run Tryz.prog wr = .ok (.tuple #[.agg #[a, b, c, d], e]) wr := by
  have h2' : tmps[2]?.getD undef = .pointer (some ⟨n, 0, none⟩) := by simpa using h2
  have h3' : tmps[3]?.getD undef = .pointer (some ⟨n + 1, 0, none⟩) := by simpa using h3
  have hl : (loadVar 45 ⟨n + 1, 0, none⟩).run Tryz.prog wr = .ok e wr := by simp [go_sem, h.c]
  simp [results, Tryz.results12, h2', h3', asAddr, run_loadVar_row wr n 26 26 #[a, b, c, d] (0, 0) _ h.hp Tryz.underlying26 rfl (ipR _ _ _ _), hl]
theorem parse_end {n : Nat} {w wr : World} {a b c d e : Value} {R : Ending → World → Prop} (h : PX n w #[a, b, c, d] e wr) (tmps : Array Value) (h2 : tmps.getD 2 undef = .pointer (some ⟨n, 0, none⟩)) (h3 : tmps.getD 3 undef = .pointer (some ⟨n + 1, 0, none⟩))
    (hR : R (.returned (.tuple #[.agg #[a, b, c, d], e])) wr) :
    Leaves Tryz.prog Tryz.f12 tmps R [{ target := .fn (.func 22) #[.pointer (some ⟨n, 0, none⟩), .pointer (some ⟨n + 1, 0, none⟩)], args := #[] }] .returning wr := by
  refine leaves_cons (f := 22) (args := #[.pointer (some ⟨n, 0, none⟩), .pointer (some ⟨n + 1, 0, none⟩)]) (by simp) (by simp [go_sem]) ?_
  refine (pcatch_idle n wr).mono ?_
  rintro e' u' w'' ⟨rfl, rfl, rfl⟩
  exact ⟨_, parse_res h tmps h2 h3, hR⟩
theorem parse_catch {ea : Int → Addr} {n : Nat} {w wr : World} {a b c d e : Value} {R : Ending → World → Prop} (h : PX n w #[a, b, c, d] e wr) (hE : Errs ea wr) (tmps : Array Value) (h2 : tmps.getD 2 undef = .pointer (some ⟨n, 0, none⟩)) (h3 : tmps.getD 3 undef = .pointer (some ⟨n + 1, 0, none⟩))
    (u : TypeId) (pv : Value) (hR : ∀ w', PX n w zPR (EV ea 8) w' → R (.returned (.tuple #[.agg zPR, EV ea 8])) w') :
    Leaves Tryz.prog Tryz.f12 tmps R [{ target := .fn (.func 22) #[.pointer (some ⟨n, 0, none⟩), .pointer (some ⟨n + 1, 0, none⟩)], args := #[] }] (.panicking [{ v := .iface u pv, recovered := false }]) wr := by
  refine leaves_cons (f := 22) (args := #[.pointer (some ⟨n, 0, none⟩), .pointer (some ⟨n + 1, 0, none⟩)]) (by simp) (by simp [go_sem]) ?_
  refine (pcatch_panic n w wr _ _ rfl h hE u pv []).mono ?_
  rintro e' u' w'' ⟨rfl, rfl, h'⟩
  exact ⟨_, parse_res h' tmps h2 h3, hR _ h'⟩
set_option maxHeartbeats 8000000 in
theorem parse_own {ea : Int → Addr} (t : ByteArray) (w : World) (hE : Errs ea w) (ht : t.size ≤ 140737488355328) :
    Calls Tryz.prog 12 #[.string t] w (PsO ea t w) := by
  have hmf : ∀ (fn : Fn) (first cap : Array Value) (w : World), (Instr.makeFunc fn first cap).run Tryz.prog w = .ok (.func fn first cap) w := fun _ _ _ _ => rfl
  have hst := px_start w
  obtain ⟨n, hn⟩ : ∃ n, w.heap.size = n := ⟨_, rfl⟩
  rw [hn] at hst
  obtain ⟨W, hW⟩ : ∃ W, (w.alloc (.cells zPR 26)).alloc (.cells #[.nilIface] 45) = W := ⟨_, rfl⟩
  rw [hW] at hst
  have HP : Hid (PX n w zPR .nilIface W) := hst
  have HN : Hid (w.heap.size = n) := hn
  have HE : Hid (∀ y, Below n w y → Errs ea y) := fun y hy => hE.below (by rw [hn]; exact hy)
  go_enter_defers Tryz.func12, Tryz.ntmps12
  clear hst hE
  go_upto_region 2 with (fail)
  clear hW hn hmf
  by_cases hb : 4096 < t.size
  · have HX : Hid (prs t = (zPt, 8)) := by show prs t = _; unfold prs; rw [if_pos hb]
    have b1 : (4096 : Int) < (t.size : Int) := by omega
    have e0 := ((HE.out _ HP.out.old).1 8 (by decide)).1
    simp only [eblk] at e0
    have k0 := cell_of_row W n 0 _ _ _ HP.out.hp
    have k1 := cell_of_row W n 1 _ _ _ HP.out.hp
    have k2 := cell_of_row W n 2 _ _ _ HP.out.hp
    have k3 := cell_of_row W n 3 _ _ _ HP.out.hp
    have k4 := cell_of_row W (n + 1) 0 _ _ _ HP.out.he
    have f0 := frozen_of_row W n 0 _ _ HP.out.hp
    have f1 := frozen_of_row W n 1 _ _ HP.out.hp
    have f2 := frozen_of_row W n 2 _ _ HP.out.hp
    have f3 := frozen_of_row W n 3 _ _ HP.out.hp
    have f4 := frozen_of_row W (n + 1) 0 _ _ HP.out.he
    simp at k0 k1 k2 k3 k4
    have q1 : ¬ n = 1 := by have := World.block_lt_of_cell? w _ (((HE.out _ (Below.refl _ _)).1 8 (by decide)).1); have h2 := HN.out; simp only [eblk] at this; omega
    have q2 : ¬ 1 = n := fun h => q1 h.symm
    clear hb
    go_wp2
    go_region
    go_wp2
    have h9 := (((((HP.out.at 0 (.string ⟨#[]⟩)).at 1 (.slice none 0 0)).at 2 (.slice none 0 0)).at 3 (.slice none 0 0)).er (e' := EV ea 8)).drew
    refine parse_end (e := EV ea 8) h9 _ rfl rfl ⟨by rw [HN.out]; exact h9.old, _, _, _, by rw [HX.out]; rfl, by rw [HX.out]; exact ⟨ftp_zero _ _, owp_zero _ _⟩⟩
  have b1 : ¬ (4096 : Int) < (t.size : Int) := by omega
  have HL : Hid ((toL t).length ≤ 4096) := by show (toL t).length ≤ 4096; simp [toL]; simpa using Nat.not_lt.1 hb
  have HX : Hid (prs t = _) := prs_patL t (Nat.not_lt.1 hb)
  clear hb
  go_upto_region 5 with (fail)
  have hr0 : RB W.heap.size (toL t) (W.alloc (.cells #[.string t] 60)) := heap_alloc_new _ _
  have hup : PX n w zPR .nilIface (W.alloc (.cells #[.string t] 60)) := HP.out.below ((Below.refl _ _).alloc (Nat.le_refl _) _)
  have hnr : n + 2 ≤ W.heap.size := HP.out.sz
  have hsz : (W.alloc (.cells #[.string t] 60)).heap.size = W.heap.size + 1 := size_alloc _ _
  obtain ⟨r, hr⟩ : ∃ r, W.heap.size = r := ⟨_, rfl⟩
  obtain ⟨W1, hW1⟩ : ∃ W1, W.alloc (.cells #[.string t] 60) = W1 := ⟨_, rfl⟩
  simp only [hW1] at hr0 hup hsz ⊢
  simp only [hr] at hr0 hnr hsz ⊢
  have HR : Hid (PX n w zPR .nilIface W1 ∧ n + 2 ≤ r) := ⟨hup, hnr⟩
  have CP := rpattern_any (ea := ea) r (toL t) HL.out W1 (fun y hy => HE.out _ (hup.old.trans (hy.to (by omega) (by omega)))) hr0
  have HSZ : Hid (W1.heap.size = r + 1) := hsz
  clear hW1 hr hr0 hup hnr b1 ht HP hsz
  unfold RpP at CP
  cases hp : patL (toL t) with
  | none =>
    have HXP : Hid (prs t = (zPt, 8)) := by show prs t = _; rw [HX.out, hp]
    simp only [hp] at CP
    have HCP : Hid _ := CP
    clear CP hp HX
    go_wp2_with (go_at_call 23; refine Calls.mono HCP.out ?_; rintro e w2 ⟨h2, rfl⟩)
    have hx := HR.out.1.up HR.out.2 h2
    refine parse_catch hx (HE.out _ hx.old) _ rfl rfl _ _ fun w' h' => ⟨by rw [HN.out]; exact h'.old, _, _, _, by rw [HXP.out]; rfl, by rw [HXP.out]; exact ⟨ftp_zero _ _, owp_zero _ _⟩⟩
  | some p =>
    rw [hp] at HX
    simp only at HX
    simp only [hp] at CP
    have HCP : Hid _ := CP
    obtain ⟨nm, hnm⟩ : ∃ nm, p.nm = nm := ⟨_, rfl⟩
    clear CP hp
    go_upto_region 6 with (first
      | (go_at_call 23; refine Calls.mono HCP.out ?_; rintro e w2 ⟨h2, v0, v1, vl, rfl, hf, ho⟩; obtain ⟨p0, q0, s0, rfl⟩ := hf.1.sl3; obtain ⟨p1, q1, s1, rfl⟩ := hf.2.1.sl3; obtain ⟨p2, q2, s2, rfl⟩ := hf.2.2.sl3; rw [hnm]; have H2 : Hid (PX n w zPR .nilIface w2 ∧ FtP (fun b => r + 1 < b ∧ b < w2.heap.size) w2 (.slice p0 q0 s0) (.slice p1 q1 s1) (.slice p2 q2 s2) p) := ⟨HR.out.1.up HR.out.2 h2, by rw [← HSZ.out]; exact hf⟩; have HO2 : Hid (OwP (r + 1 + 1) (.slice p0 q0 s0) (.slice p1 q1 s1) (.slice p2 q2 s2) p w2) := (by show OwP _ _ _ _ _ _; rw [← HSZ.out]; exact ho); clear h2 hf ho)
      | (with_reducible refine at_list ?_; refine hold_store 26 (.tmp 2) (.tmp 14) rfl ?_))
    refine wpList_store_row rfl 26 (.tmp 2) (.tmp 14) rfl n #[.string nm, .slice p0 q0 s0, .slice p1 q1 s1, .slice p2 q2 s2] rfl rfl 26 zPR H2.out.1.hp (ipR _ _ _ _) rfl (by simp [Value.oneCell']) ?_
    have h3 : PX n w #[.string nm, .slice p0 q0 s0, .slice p1 q1 s1, .slice p2 q2 s2] .nilIface (w2.setRow n #[.string nm, .slice p0 q0 s0, .slice p1 q1 s1, .slice p2 q2 s2]) := H2.out.1.row rfl
    have hf3 : FtP (fun b => n + 2 ≤ b ∧ b < w2.heap.size) (w2.setRow n #[.string nm, .slice p0 q0 s0, .slice p1 q1 s1, .slice p2 q2 s2]) (.slice p0 q0 s0) (.slice p1 q1 s1) (.slice p2 q2 s2) p := (H2.out.2.keep (fun b hb => setRow_other _ _ _ _ (by have := hb.1; have := HR.out.2; omega))).mono (fun b hb => ⟨by have := hb.1; have := HR.out.2; omega, hb.2⟩)
    rw [← size_setRow w2 n #[.string nm, .slice p0 q0 s0, .slice p1 q1 s1, .slice p2 q2 s2]] at hf3
    have ho3 : OwP (n + 2) (.slice p0 q0 s0) (.slice p1 q1 s1) (.slice p2 q2 s2) p (w2.setRow n #[.string nm, .slice p0 q0 s0, .slice p1 q1 s1, .slice p2 q2 s2]) := (HO2.out.keep (fun b hb _ => setRow_other _ _ _ _ (by have := HR.out.2; omega))).dn (by have := HR.out.2; omega)
    obtain ⟨w3, hw3⟩ : ∃ w3, w2.setRow n #[.string nm, .slice p0 q0 s0, .slice p1 q1 s1, .slice p2 q2 s2] = w3 := ⟨_, rfl⟩
    rw [hw3] at h3 hf3 ho3 ⊢
    have HO3 : Hid (OwP (n + 2) (.slice p0 q0 s0) (.slice p1 q1 s1) (.slice p2 q2 s2) p w3) := ho3
    have H3 : Hid (PX n w #[.string nm, .slice p0 q0 s0, .slice p1 q1 s1, .slice p2 q2 s2] .nilIface w3) := h3
    have HF3 : Hid (FtP (fun b => n + 2 ≤ b ∧ b < w3.heap.size) w3 (.slice p0 q0 s0) (.slice p1 q1 s1) (.slice p2 q2 s2) p) := hf3
    have hck := pcheck_any (ea := ea) (.agg #[.string nm, .slice p0 q0 s0, .slice p1 q1 s1, .slice p2 q2 s2]) p w3 (HE.out _ h3.old) (by rw [← hnm]; exact hf3.rd)
    have k0 := cell_of_row w3 n 0 _ _ _ h3.hp
    have k1 := cell_of_row w3 n 1 _ _ _ h3.hp
    have k2 := cell_of_row w3 n 2 _ _ _ h3.hp
    have k3 := cell_of_row w3 n 3 _ _ _ h3.hp
    simp at k0 k1 k2 k3
    have HCK : Hid _ := hck
    clear hw3 H2 HO2 HCP h3 hf3 ho3 hck
    go_upto_region 6 with (fail)
    go_upto_region 7 with (go_at_call 18; refine Calls.mono HCK.out ?_; rintro e w4 ⟨rfl, h4⟩; have H4 : Hid (PX n w #[.string nm, .slice p0 q0 s0, .slice p1 q1 s1, .slice p2 q2 s2] .nilIface w4) := H3.out.below h4; have HF4 : Hid (FtP (fun b => n + 2 ≤ b ∧ b < w4.heap.size) w4 (.slice p0 q0 s0) (.slice p1 q1 s1) (.slice p2 q2 s2) p) := (HF3.out.keep (fun b hb => h4.block b hb.2)).mono (fun b hb => ⟨hb.1, Nat.lt_of_lt_of_le hb.2 h4.size⟩); have HO4 : Hid (OwP (n + 2) (.slice p0 q0 s0) (.slice p1 q1 s1) (.slice p2 q2 s2) p w4) := HO3.out.keep (fun b _ hb => h4.block b hb); clear h4 k0 k1 k2 k3)
    have k0 := cell_of_row w4 n 0 _ _ _ H4.out.hp
    have k1 := cell_of_row w4 n 1 _ _ _ H4.out.hp
    have k2 := cell_of_row w4 n 2 _ _ _ H4.out.hp
    have k3 := cell_of_row w4 n 3 _ _ _ H4.out.hp
    have k4 := cell_of_row w4 (n + 1) 0 _ _ _ H4.out.he
    have f0 := frozen_of_row w4 n 0 _ _ H4.out.hp
    have f1 := frozen_of_row w4 n 1 _ _ H4.out.hp
    have f2 := frozen_of_row w4 n 2 _ _ H4.out.hp
    have f3 := frozen_of_row w4 n 3 _ _ H4.out.hp
    have f4 := frozen_of_row w4 (n + 1) 0 _ _ H4.out.he
    simp at k0 k1 k2 k3 k4
    clear H3 HF3 HO3 HCK
    by_cases hc : chk p = 0
    · rw [hc, EV_0]
      have HXP : Hid (prs t = (p, 0)) := by show prs t = _; rw [HX.out, hc]; rfl
      clear hc HX
      go_wp2
      have h9 := (((((H4.out.at 0 (.string nm)).at 1 (.slice p0 q0 s0)).at 2 (.slice p1 q1 s1)).at 3 (.slice p2 q2 s2)).er (e' := .nilIface))
      obtain ⟨w9, hw9⟩ : ∃ w9, w9 = (((((w4.setCell ⟨n, 0, none⟩ (.string nm)).setCell ⟨n, 1, none⟩ (.slice p0 q0 s0)).setCell ⟨n, 2, none⟩ (.slice p1 q1 s1)).setCell ⟨n, 3, none⟩ (.slice p2 q2 s2)).setCell ⟨n + 1, 0, none⟩ .nilIface) := ⟨_, rfl⟩
      rw [← hw9] at h9 ⊢
      have hft : FtP (fun b => n ≤ b ∧ b < w9.heap.size) w9 (.slice p0 q0 s0) (.slice p1 q1 s1) (.slice p2 q2 s2) p := by
        refine (HF4.out.keep (fun b hb => ?_)).mono (fun b hb => ⟨by have := hb.1; omega, by rw [hw9]; simp only [World.size_setCell]; exact hb.2⟩)
        have h1 := hb.1
        rw [hw9]
        rw [heap_setCell_other _ _ _ _ (by show b ≠ n + 1; omega), heap_setCell_other _ _ _ _ (by show b ≠ n; omega), heap_setCell_other _ _ _ _ (by show b ≠ n; omega), heap_setCell_other _ _ _ _ (by show b ≠ n; omega), heap_setCell_other _ _ _ _ (by show b ≠ n; omega)]
      have how : OwP n (.slice p0 q0 s0) (.slice p1 q1 s1) (.slice p2 q2 s2) p w9 := by
        refine (HO4.out.keep (fun b hb _ => ?_)).dn (by omega)
        rw [hw9]
        rw [heap_setCell_other _ _ _ _ (by show b ≠ n + 1; omega), heap_setCell_other _ _ _ _ (by show b ≠ n; omega), heap_setCell_other _ _ _ _ (by show b ≠ n; omega), heap_setCell_other _ _ _ _ (by show b ≠ n; omega), heap_setCell_other _ _ _ _ (by show b ≠ n; omega)]
      refine parse_end (e := .nilIface) h9 _ rfl rfl ⟨by rw [HN.out]; exact h9.old, _, _, _, by rw [HXP.out, ← hnm]; rfl, by rw [HXP.out, HN.out]; exact ⟨hft, how⟩⟩
    · have HXP : Hid (prs t = (zPt, chk p)) := by show prs t = _; rw [HX.out, if_pos hc]
      rw [EV_ne hc]
      obtain ⟨c, hcc⟩ : ∃ c, chk p = c := ⟨_, rfl⟩
      rw [hcc] at HXP hc ⊢
      clear hcc HX
      have HC : Hid (c ≠ 0) := hc
      clear hc
      go_wp2
      try go_region
      all_goals try go_wp2
      have h9 := (((((H4.out.at 0 (.string ⟨#[]⟩)).at 1 (.slice none 0 0)).at 2 (.slice none 0 0)).at 3 (.slice none 0 0)).er (e' := .iface 166 (.pointer (some (ea c)))))
      have h8 := h9.drew
      refine parse_end (e := .iface 166 (.pointer (some (ea c)))) (by first | exact h8 | exact h9) _ rfl rfl ⟨by rw [HN.out]; first | exact h9.old | exact h8.old, _, _, _, by rw [HXP.out, EV_ne HC.out]; rfl, by rw [HXP.out]; exact ⟨ftp_zero _ _, owp_zero _ _⟩⟩
theorem parse_any' {ea : Int → Addr} (t : ByteArray) (w : World) (hE : Errs ea w) (ht : t.size ≤ 140737488355328) :
    Calls Tryz.prog 12 #[.string t] w (PsP ea t w) :=
  (parse_own t w hE ht).mono fun e w' ⟨hb, v0, v1, vl, he, hf, _⟩ => ⟨hb, v0, v1, vl, he, hf⟩
theorem pparse_any {ea : Int → Addr} : ∀ (t : ByteArray) (W : World), Errs ea W → t.size ≤ 140737488355328 →
    Calls Tryz.prog 12 #[.string t] W fun e w' => ∃ v, e = .returned (.tuple #[v, EV ea (prs t).2]) ∧ RdP w' v (prs t).1 ∧ Below W.heap.size W w' := fun t W hE ht =>
  (parse_any' t W hE ht).mono fun e w' ⟨hb, v0, v1, vl, he, hf⟩ => ⟨_, he, hf.rd, hb⟩
end Go.Proofs.YtpfidohkohldaaaGreatDoor
/- slices.Insert, slices.Clone of lines, laid at this program -/
namespace Go.Proofs
set_option linter.unusedVariables false
open Go.Shelf Go.RowKit
def Tryz.laysNm221_ren : Go.Shelf.Ren := ⟨fun | 21 => 56 | 27 => 72 | 28 => 73 | 35 => 92 | 39 => 111 | n => n, fun | 22 => 22 | 3 => 3 | 4 => 4 | 0 => 0 | n => n, fun | n => n⟩
theorem Tryz.laysNm221 : Go.Proofs.Lays2.n21 Tryz.prog Tryz.laysNm221_ren := {
  mixed := by kernel_rfl
  f21 := Tryz.func56.trans (congrArg some (by kernel_rfl))
  f27 := Tryz.func72.trans (congrArg some (by kernel_rfl))
  f28 := Tryz.func73.trans (congrArg some (by kernel_rfl))
  f35 := Tryz.func92.trans (congrArg some (by kernel_rfl))
  f39 := Tryz.func111.trans (congrArg some (by kernel_rfl))
  t0 := Tryz.underlying0
  a0 := Tryz.isAgg0
  z0 := Tryz.sizeOf0
  v0 := Tryz.zeroValue0
  t3 := Tryz.underlying3
  a3 := Tryz.isAgg3
  z3 := Tryz.sizeOf3
  v3 := Tryz.zeroValue3
  t4 := Tryz.underlying4
  a4 := Tryz.isAgg4
  z4 := Tryz.sizeOf4
  v4 := Tryz.zeroValue4
  t22 := Tryz.underlying22
  a22 := Tryz.isAgg22
  z22 := Tryz.sizeOf22
  v22 := Tryz.zeroValue22
  i3 := by kernel_rfl }
def Tryz.laysClL_ren : Go.Shelf.Ren := ⟨fun | 41 => 51 | n => n, fun | 22 => 24 | 23 => 43 | 4 => 4 | n => n, fun | n => n⟩
theorem Tryz.laysClL : Go.Proofs.SlLaysE0.n41 Tryz.prog Tryz.laysClL_ren := {
  mixed := by kernel_rfl
  f41 := ⟨Tryz.f51.name, by decide, Tryz.func51.trans (congrArg some (by kernel_rfl))⟩
  t4 := Tryz.underlying4
  a4 := Tryz.isAgg4
  z4 := Tryz.sizeOf4
  v4 := Tryz.zeroValue4
  t22 := Tryz.underlying24
  a22 := Tryz.isAgg24
  z22 := Tryz.sizeOf24
  v22 := Tryz.zeroValue24 }
def Tryz.laysGrw_ren : Go.Shelf.Ren := ⟨fun | 4 => 69 | n => n, fun | 22 => 22 | 25 => 3 | 3 => 3 | 4 => 4 | 9 => 9 | 20 => 20 | 0 => 0 | n => n, fun | n => n⟩
theorem Tryz.laysGrw : Go.Proofs.Lays8.n4 Tryz.prog Tryz.laysGrw_ren := {
  mixed := by kernel_rfl
  f4 := ⟨Tryz.f69.name, by decide, Tryz.func69.trans (congrArg some (by kernel_rfl))⟩
  t0 := Tryz.underlying0
  a0 := Tryz.isAgg0
  z0 := Tryz.sizeOf0
  v0 := Tryz.zeroValue0
  t3 := Tryz.underlying3
  a3 := Tryz.isAgg3
  z3 := Tryz.sizeOf3
  v3 := Tryz.zeroValue3
  t4 := Tryz.underlying4
  a4 := Tryz.isAgg4
  z4 := Tryz.sizeOf4
  v4 := Tryz.zeroValue4
  t9 := Tryz.underlying9
  a9 := Tryz.isAgg9
  z9 := Tryz.sizeOf9
  v9 := Tryz.zeroValue9
  t20 := Tryz.underlying20
  a20 := Tryz.isAgg20
  z20 := Tryz.sizeOf20
  v20 := Tryz.zeroValue20
  t22 := Tryz.underlying22
  a22 := Tryz.isAgg22
  z22 := Tryz.sizeOf22
  v22 := Tryz.zeroValue22 }
end Go.Proofs
/- a drawn region whose last operation writes what the region reads: S holds behind every operation but number m, which waits for what is read; of no dump -/
namespace Go.Pin
open Go.RowKit
section
variable {P : Program} {ops : Array Oper} {Q : Exit → Act → World → Prop} {S : World → Prop} {m : Nat}
def wpL (P : Program) (ops : Array Oper) (Q : Exit → Act → World → Prop) (S : World → Prop) (m : Nat) : Nat → Array Bool → Act → World → Prop
  | 0, l, a, w => Region.ready .any ops l = [] ∧ Q .normal a w
  | n + 1, l, a, w => (Region.ready .any ops l = [] → Q .normal a w) ∧ ∀ j ∈ Region.ready .any ops l, wpOp P ops Q j (fun a' w' => (j = m ∨ S w') ∧ wpL P ops Q S m n (l.setIfInBounds j true) a' w') a w
theorem wpL_any (n : Nat) : ∀ (l : Array Bool) (a : Act) (w : World), wpL P ops Q S m n l a w → wpAny P .any ops Q n l a w := by
  induction n with
  | zero => exact fun _ _ _ h => h
  | succ n ih => exact fun l a w h => ⟨h.1, fun j hj => wpOp_mono (fun a' w' k => ih _ _ _ k.2) (h.2 j hj)⟩
theorem wpL_first {i : Nat} {oi om : Oper} {v : Value} (hi : ops[i]? = some oi) (hsel : ∀ (j : Nat) (o : Oper) cs b, ops[j]? = some o → o.op ≠ .select cs b) (hQ : ∀ c a w, Q (.panic c) (a.put oi.dst v) w → Q (.panic c) a w)
    (hm : ops[m]? = some om) (hwait : ∃ e ∈ om.after, Region.binds .any e = true ∧ e.on = i) (n : Nat) : ∀ (l : Array Bool) (a : Act) (w : World),
      (∀ j oj, ops[j]? = some oj → j ≠ i → l.getD j true = false → (∀ e ∈ oj.after, Region.binds .any e = true → e.on ≠ i) → oi.apart ops oj = true) →
      i ∈ Region.ready .any ops l → YieldsIf P ops S oi v a → S w → wpL P ops Q S m n (l.setIfInBounds i true) (a.put oi.dst v) w → wpL P ops Q S m (n + 1) l a w := by
  induction n with
  | zero =>
    intro l a w _ hr hy hS H
    refine ⟨fun h => (by rw [h] at hr; cases hr), fun j hj => ?_⟩
    by_cases e : j = i
    · rw [e]; exact hy.wpOp hi hS ⟨.inr hS, H⟩
    · have := ready_mono hj e
      rw [H.1] at this
      cases this
  | succ n ih =>
    intro l a w hfree hr hy hS H
    refine ⟨fun h => (by rw [h] at hr; cases hr), fun j hj => ?_⟩
    by_cases e : j = i
    · rw [e]; exact hy.wpOp hi hS ⟨.inr hS, H⟩
    · obtain ⟨hun, oj, hoj, hall⟩ := mem_ready.1 hj
      have hno : ∀ x ∈ oj.after, Region.binds .any x = true → x.on ≠ i := fun x hx hb he => by
        have h1 := hall x hx hb
        have h0 := (mem_ready.1 hr).1
        rw [he] at h1
        by_cases hl : i < l.size
        · simp [hl] at h0 h1
          rw [h0] at h1
          cases h1
        · simp [Array.getElem?_eq_none (Nat.le_of_not_lt hl)] at h1
      have hjm : j ≠ m := fun hjm => by
        rw [hjm, hm] at hoj
        injection hoj with hoj
        obtain ⟨x, hx, hb, he⟩ := hwait
        exact hno x (hoj ▸ hx) hb he
      have h2 := wpOp_putIf hoj (hfree j oj hoj e hun hno) (fun cs b => hsel i oi cs b hi) (fun cs b => hsel j oj cs b hoj) hQ hy (H.2 j (ready_mono hj e))
      refine wpOp_mono (fun a' w' k => ?_) h2
      have hS' : S w' := k.2.1.resolve_left hjm
      refine ⟨.inr hS', ih (l.setIfInBounds j true) a' w' (fun t ot ht hti hut hnt => hfree t ot ht hti ?_ hnt) (ready_mono hr (Ne.symm e)) k.1 hS' ?_⟩
      · by_cases hjt : j = t
        · rw [← hjt]; exact hun
        · rw [getD_set_ne true hjt] at hut; exact hut
      · rw [Array.setIfInBounds_comm _ _ e]
        exact k.2.2
theorem wp_region_L (S : World → Prop) (m n : Nat) {id : Nat} {a : Act} {w : World} (hn : ops.size = n) (hm : P.follows .mixedOrders = true) (hC : S w.drew)
    (h : ∀ (X : Type) (f : X → World), Nonempty X → (∀ x, S (f x)) → Hid (∀ Y, S Y → ∃ x, Y = f x) → wpL P ops Q S m n (Array.replicate n false) a w.drew) : (Code.region id ops true).wp P Q a w := by
  have := h {w // S w} Subtype.val ⟨⟨_, hC⟩⟩ (fun x => x.2) (fun Y hY => ⟨⟨Y, hY⟩, rfl⟩)
  subst hn
  exact wp_region_any hm (wpL_any _ _ _ _ this)
variable {fuel : Nat} {listed : Array Bool} {a : Act} {w : World}
theorem takeL {X : Type} {f : X → World} (i : Nat) {o om : Oper} (hi : ops[i]? = some o) (hm : ops[m]? = some om) (hwt : (om.after.any fun e => Region.binds .any e && e.on == i) = true) (hs : Region.noSelect ops = true) (hf : Region.free .any ops listed i = true) (hr : (Region.ready .any ops listed).contains i = true)
    (hp : plainB o.op = true) (hQ : ∀ c (a : Act) d v w, Q (.panic c) (a.put d v) w → Q (.panic c) a w) (hS : S w) (hC : ∀ Y, S Y → ∃ x, Y = f x) (hw : Region.wanted o (yielded ops a.tmps) = true)
    (h : ∀ K : Act → Prop, (∀ a', wpL P ops Q S m fuel (listed.setIfInBounds i true) a' w → K a') → o.quiet P a (fun w' => ∃ x, w' = f x) K) : wpL P ops Q S m (fuel + 1) listed a w := by
  obtain ⟨v, h1, h2⟩ := h _ (fun _ h => h)
  have hwait : ∃ e ∈ om.after, Region.binds .any e = true ∧ e.on = i := by
    obtain ⟨k, hk, e⟩ := Array.any_eq_true.1 hwt
    rw [Bool.and_eq_true] at e
    exact ⟨_, Array.getElem_mem hk, e.1, by simpa using e.2⟩
  refine wpL_first hi (Region.noSelect_spec hs) (fun _ _ _ h => hQ _ _ _ _ _ h) hm hwait fuel listed a w (Region.free_spec hi hf) (by simpa using hr) (.inl ⟨hw, fun w hw => ?_⟩) hS h2
  have := h1 w (hC w hw)
  unfold Oper.quietAt at this
  cases e : (execOp a.eval o).run P w with
  | ok n w' =>
    obtain ⟨u, rfl⟩ := plain_ok hp e
    rw [e] at this
    obtain ⟨rfl, rfl⟩ := this
    rfl
  | halt x w' => rw [e] at this; exact this.elim
theorem skipL (i : Nat) {o om : Oper} (hi : ops[i]? = some o) (hm : ops[m]? = some om) (hwt : (om.after.any fun e => Region.binds .any e && e.on == i) = true) (hs : Region.noSelect ops = true) (hf : Region.free .any ops listed i = true) (hr : (Region.ready .any ops listed).contains i = true)
    (hQ : ∀ c (a : Act) d v w, Q (.panic c) (a.put d v) w → Q (.panic c) a w) (hS : S w) (hw : Region.wanted o (yielded ops a.tmps) = false)
    (h : wpL P ops Q S m fuel (listed.setIfInBounds i true) (a.put o.dst undef) w) : wpL P ops Q S m (fuel + 1) listed a w := by
  have hwait : ∃ e ∈ om.after, Region.binds .any e = true ∧ e.on = i := by
    obtain ⟨k, hk, e⟩ := Array.any_eq_true.1 hwt
    rw [Bool.and_eq_true] at e
    exact ⟨_, Array.getElem_mem hk, e.1, by simpa using e.2⟩
  exact wpL_first hi (Region.noSelect_spec hs) (fun _ _ _ h => hQ _ _ _ _ _ h) hm hwait fuel listed a w (Region.free_spec hi hf) (by simpa using hr) (.inr ⟨hw, rfl⟩) hS h
theorem readyL (i : Nat) {o : Oper} (hi : ops[i]? = some o) (hr : Region.ready .any ops listed = [i]) (hw : Region.wanted o (yielded ops a.tmps) = true)
    (h : ∀ K : Act → World → Prop, (∀ a' w', i = m ∨ S w' → wpL P ops Q S m fuel (listed.setIfInBounds i true) a' w' → K a' w') → Oper.wp P o a w K Q) : wpL P ops Q S m (fuel + 1) listed a w := by
  refine ⟨fun h0 => (by rw [hr] at h0; cases h0), fun j hj => ?_⟩
  rw [hr] at hj
  obtain rfl : j = i := by simpa using hj
  refine wpOp_step hi (fun K hK => ?_)
  rw [if_pos hw]
  exact h K (fun a' w' h1 h2 => hK a' w' ⟨h1, h2⟩)
theorem wpL_done (hr : Region.ready .any ops listed = []) (h : Q .normal a w) : wpL P ops Q S m fuel listed a w := by
  cases fuel with
  | zero => exact ⟨hr, h⟩
  | succ n => exact ⟨fun _ => h, by rw [hr]; simp⟩
end
end Go.Pin
