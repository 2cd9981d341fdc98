import Derived.Recover
import Derived.Defers
import Derived.KernelRfl
import Derived.Maps.Own
import Derived.Test.YtjhleocpipmklaaDoorMjba
import Derived.Test.YtjhleocpipmklaaDoorMjaf
import Derived.Test.YtjhleocpipmklaaDoorMjaw
namespace Go.Proofs.YtjhleocpipmklaaDoor
set_option linter.unusedSimpArgs false
set_option linter.unusedVariables false
set_option maxRecDepth 100000
open Go.ChangeShapes Go.WideShapes Go.ChangeAt Go.RowKit Go.Pin Go.Pat Go.Deep
theorem ftp_zero (S : Nat → Prop) (w : World) : FtP S w (.slice none 0 0) (.slice none 0 0) (.slice none 0 0) zPt :=
  ⟨ft_nil _ _, ft_nil _ _, ⟨none, 0, rfl, Nat.le_refl _, by decide, fun j hj => absurd hj (Nat.not_lt_zero _)⟩⟩
def PsP (ea : Int → Addr) (t : ByteArray) (W : World) (e : Ending) (w' : World) : Prop :=
  Below W.heap.size W w' ∧ ∃ v0 v1 vl, e = .returned (.tuple #[.agg #[.string (prs t).1.nm, v0, v1, vl], EV ea (prs t).2]) ∧ FtP (fun b => W.heap.size ≤ b ∧ b < w'.heap.size) w' v0 v1 vl (prs t).1
theorem owp_zero (b : Nat) (w : World) : OwP b (.slice none 0 0) (.slice none 0 0) (.slice none 0 0) zPt w :=
  ⟨[], rfl, own_nil0 _ _ _ _, fun f hf => by simp at hf; rcases hf with rfl | rfl <;> exact own_nil0 _ _ _ _, by simp [obs, Value.ownBlock]⟩
/-- what Parse answers, its lists one's own -/
def PsO (ea : Int → Addr) (t : ByteArray) (W : World) (e : Ending) (w' : World) : Prop :=
  Below W.heap.size W w' ∧ ∃ v0 v1 vl, e = .returned (.tuple #[.agg #[.string (prs t).1.nm, v0, v1, vl], EV ea (prs t).2]) ∧ FtP (fun b => W.heap.size ≤ b ∧ b < w'.heap.size) w' v0 v1 vl (prs t).1 ∧ OwP W.heap.size v0 v1 vl (prs t).1 w'
theorem px_start (w : World) : PX w.heap.size w zPR .nilIface ((w.alloc (.cells zPR 26)).alloc (.cells #[.nilIface] 32)) := by
  refine ⟨((Below.refl _ _).alloc (Nat.le_refl _) _).alloc (by rw [size_alloc]; omega) _, by simp only [size_alloc]; omega, ?_, ?_⟩
  · rw [(((Below.refl _ (w.alloc (.cells zPR 26))).alloc (Nat.le_refl _) (.cells #[.nilIface] 32)).block w.heap.size (by rw [size_alloc]; omega))]
    exact heap_alloc_new _ _
  · have := heap_alloc_new (w.alloc (.cells zPR 26)) (.cells #[.nilIface] 32)
    rw [size_alloc] at this
    exact this
theorem PX.at {n : Nat} {w wr : World} {cs : Array Value} {e : Value} (h : PX n w cs e wr) (i : Nat) (v : Value) : PX n w (cs.setIfInBounds i v) e (wr.setCell ⟨n, i, none⟩ v) := by
  refine ⟨h.old.setCell (Nat.le_refl _) _, by rw [World.size_setCell]; exact h.sz, ?_, (heap_setCell_other _ _ _ _ (by show n + 1 ≠ n; omega)).trans h.he⟩
  rw [Go.heap_setCell_same _ _ _ _ _ _ h.hp]
theorem PX.drew {n : Nat} {w wr : World} {cs : Array Value} {e : Value} (h : PX n w cs e wr) : PX n w cs e wr.drew := ⟨h.old.drew, h.sz, h.hp, h.he⟩
theorem PX.c {n : Nat} {w wr : World} {cs : Array Value} {e : Value} (h : PX n w cs e wr) : wr.cell? ⟨n + 1, 0, none⟩ = some e := by rw [cell_of_row _ _ _ _ _ _ h.he]; rfl
theorem parse_res {n : Nat} {w wr : World} {a b c d e : Value} (h : PX n w #[a, b, c, d] e wr) (tmps : Array Value) (h2 : tmps.getD 2 undef = .pointer (some ⟨n, 0, none⟩)) (h3 : tmps.getD 3 undef = .pointer (some ⟨n + 1, 0, none⟩)) :
    (results Tryd.f70 tmps).run Tryd.prog wr = .ok (.tuple #[.agg #[a, b, c, d], e]) wr := by
  have h2' : tmps[2]?.getD undef = .pointer (some ⟨n, 0, none⟩) := by simpa using h2
  have h3' : tmps[3]?.getD undef = .pointer (some ⟨n + 1, 0, none⟩) := by simpa using h3
  have hl : (loadVar 32 ⟨n + 1, 0, none⟩).run Tryd.prog wr = .ok e wr := by simp [go_sem, h.c]
  simp [results, Tryd.results70, h2', h3', asAddr, run_loadVar_row wr n 26 26 #[a, b, c, d] (0, 0) _ h.hp Tryd.underlying26 rfl (ipR _ _ _ _), hl]
theorem parse_end {n : Nat} {w wr : World} {a b c d e : Value} {R : Ending → World → Prop} (h : PX n w #[a, b, c, d] e wr) (tmps : Array Value) (h2 : tmps.getD 2 undef = .pointer (some ⟨n, 0, none⟩)) (h3 : tmps.getD 3 undef = .pointer (some ⟨n + 1, 0, none⟩))
    (hR : R (.returned (.tuple #[.agg #[a, b, c, d], e])) wr) :
    Leaves Tryd.prog Tryd.f70 tmps R [{ target := .fn (.func 81) #[.pointer (some ⟨n, 0, none⟩), .pointer (some ⟨n + 1, 0, none⟩)], args := #[] }] .returning wr := by
  refine leaves_cons (f := 81) (args := #[.pointer (some ⟨n, 0, none⟩), .pointer (some ⟨n + 1, 0, none⟩)]) (by simp) (by simp [go_sem]) ?_
  refine (pcatch_idle n wr).mono ?_
  rintro e' u' w'' ⟨rfl, rfl, rfl⟩
  exact ⟨_, parse_res h tmps h2 h3, hR⟩
theorem parse_catch {ea : Int → Addr} {n : Nat} {w wr : World} {a b c d e : Value} {R : Ending → World → Prop} (h : PX n w #[a, b, c, d] e wr) (hE : Errs ea wr) (tmps : Array Value) (h2 : tmps.getD 2 undef = .pointer (some ⟨n, 0, none⟩)) (h3 : tmps.getD 3 undef = .pointer (some ⟨n + 1, 0, none⟩))
    (u : TypeId) (pv : Value) (hR : ∀ w', PX n w zPR (EV ea 8) w' → R (.returned (.tuple #[.agg zPR, EV ea 8])) w') :
    Leaves Tryd.prog Tryd.f70 tmps R [{ target := .fn (.func 81) #[.pointer (some ⟨n, 0, none⟩), .pointer (some ⟨n + 1, 0, none⟩)], args := #[] }] (.panicking [{ v := .iface u pv, recovered := false }]) wr := by
  refine leaves_cons (f := 81) (args := #[.pointer (some ⟨n, 0, none⟩), .pointer (some ⟨n + 1, 0, none⟩)]) (by simp) (by simp [go_sem]) ?_
  refine (pcatch_panic n w wr _ _ rfl h hE u pv []).mono ?_
  rintro e' u' w'' ⟨rfl, rfl, h'⟩
  exact ⟨_, parse_res h' tmps h2 h3, hR _ h'⟩
set_option maxHeartbeats 8000000 in
theorem parse_own {ea : Int → Addr} (t : ByteArray) (w : World) (hE : Errs ea w) (ht : t.size ≤ 140737488355328) :
    Calls Tryd.prog 70 #[.string t] w (PsO ea t w) := by
  have hmf : ∀ (fn : Fn) (first cap : Array Value) (w : World), (Instr.makeFunc fn first cap).run Tryd.prog w = .ok (.func fn first cap) w := fun _ _ _ _ => rfl
  have hst := px_start w
  obtain ⟨n, hn⟩ : ∃ n, w.heap.size = n := ⟨_, rfl⟩
  rw [hn] at hst
  obtain ⟨W, hW⟩ : ∃ W, (w.alloc (.cells zPR 26)).alloc (.cells #[.nilIface] 32) = W := ⟨_, rfl⟩
  rw [hW] at hst
  have HP : Hid (PX n w zPR .nilIface W) := hst
  have HN : Hid (w.heap.size = n) := hn
  have HE : Hid (∀ y, Below n w y → Errs ea y) := fun y hy => hE.below (by rw [hn]; exact hy)
  go_enter_defers Tryd.func70, Tryd.ntmps70
  clear hst hE
  go_upto_region 2 with (fail)
  clear hW hn hmf
  by_cases hb : 4096 < t.size
  · have HX : Hid (prs t = (zPt, 8)) := by show prs t = _; unfold prs; rw [if_pos hb]
    have b1 : (4096 : Int) < (t.size : Int) := by omega
    have e0 := ((HE.out _ HP.out.old).1 8 (by decide)).1
    simp only [eblk] at e0
    have k0 := cell_of_row W n 0 _ _ _ HP.out.hp
    have k1 := cell_of_row W n 1 _ _ _ HP.out.hp
    have k2 := cell_of_row W n 2 _ _ _ HP.out.hp
    have k3 := cell_of_row W n 3 _ _ _ HP.out.hp
    have k4 := cell_of_row W (n + 1) 0 _ _ _ HP.out.he
    have f0 := frozen_of_row W n 0 _ _ HP.out.hp
    have f1 := frozen_of_row W n 1 _ _ HP.out.hp
    have f2 := frozen_of_row W n 2 _ _ HP.out.hp
    have f3 := frozen_of_row W n 3 _ _ HP.out.hp
    have f4 := frozen_of_row W (n + 1) 0 _ _ HP.out.he
    simp at k0 k1 k2 k3 k4
    have q1 : ¬ n = 7 := by have := World.block_lt_of_cell? w _ (((HE.out _ (Below.refl _ _)).1 8 (by decide)).1); have h2 := HN.out; simp only [eblk] at this; omega
    have q2 : ¬ 7 = n := fun h => q1 h.symm
    clear hb
    go_wp2
    go_region
    go_wp2
    have h9 := (((((HP.out.at 0 (.string ⟨#[]⟩)).at 1 (.slice none 0 0)).at 2 (.slice none 0 0)).at 3 (.slice none 0 0)).er (e' := EV ea 8)).drew
    refine parse_end (e := EV ea 8) h9 _ rfl rfl ⟨by rw [HN.out]; exact h9.old, _, _, _, by rw [HX.out]; rfl, by rw [HX.out]; exact ⟨ftp_zero _ _, owp_zero _ _⟩⟩
  have b1 : ¬ (4096 : Int) < (t.size : Int) := by omega
  have HL : Hid ((toL t).length ≤ 4096) := by show (toL t).length ≤ 4096; simp [toL]; simpa using Nat.not_lt.1 hb
  have HX : Hid (prs t = _) := prs_patL t (Nat.not_lt.1 hb)
  clear hb
  go_upto_region 5 with (fail)
  have hr0 : RB W.heap.size (toL t) (W.alloc (.cells #[.string t] 135)) := heap_alloc_new _ _
  have hup : PX n w zPR .nilIface (W.alloc (.cells #[.string t] 135)) := HP.out.below ((Below.refl _ _).alloc (Nat.le_refl _) _)
  have hnr : n + 2 ≤ W.heap.size := HP.out.sz
  have hsz : (W.alloc (.cells #[.string t] 135)).heap.size = W.heap.size + 1 := size_alloc _ _
  obtain ⟨r, hr⟩ : ∃ r, W.heap.size = r := ⟨_, rfl⟩
  obtain ⟨W1, hW1⟩ : ∃ W1, W.alloc (.cells #[.string t] 135) = W1 := ⟨_, rfl⟩
  simp only [hW1] at hr0 hup hsz ⊢
  simp only [hr] at hr0 hnr hsz ⊢
  have HR : Hid (PX n w zPR .nilIface W1 ∧ n + 2 ≤ r) := ⟨hup, hnr⟩
  have CP := rpattern_any (ea := ea) r (toL t) HL.out W1 (fun y hy => HE.out _ (hup.old.trans (hy.to (by omega) (by omega)))) hr0
  have HSZ : Hid (W1.heap.size = r + 1) := hsz
  clear hW1 hr hr0 hup hnr b1 ht HP hsz
  unfold RpP at CP
  cases hp : patL (toL t) with
  | none =>
    have HXP : Hid (prs t = (zPt, 8)) := by show prs t = _; rw [HX.out, hp]
    simp only [hp] at CP
    have HCP : Hid _ := CP
    clear CP hp HX
    go_wp2_with (go_at_call 82; refine Calls.mono HCP.out ?_; rintro e w2 ⟨h2, rfl⟩)
    have hx := HR.out.1.up HR.out.2 h2
    refine parse_catch hx (HE.out _ hx.old) _ rfl rfl _ _ fun w' h' => ⟨by rw [HN.out]; exact h'.old, _, _, _, by rw [HXP.out]; rfl, by rw [HXP.out]; exact ⟨ftp_zero _ _, owp_zero _ _⟩⟩
  | some p =>
    rw [hp] at HX
    simp only at HX
    simp only [hp] at CP
    have HCP : Hid _ := CP
    obtain ⟨nm, hnm⟩ : ∃ nm, p.nm = nm := ⟨_, rfl⟩
    clear CP hp
    go_upto_region 6 with (first
      | (go_at_call 82; refine Calls.mono HCP.out ?_; rintro e w2 ⟨h2, v0, v1, vl, rfl, hf, ho⟩; obtain ⟨p0, q0, s0, rfl⟩ := hf.1.sl3; obtain ⟨p1, q1, s1, rfl⟩ := hf.2.1.sl3; obtain ⟨p2, q2, s2, rfl⟩ := hf.2.2.sl3; rw [hnm]; have H2 : Hid (PX n w zPR .nilIface w2 ∧ FtP (fun b => r + 1 < b ∧ b < w2.heap.size) w2 (.slice p0 q0 s0) (.slice p1 q1 s1) (.slice p2 q2 s2) p) := ⟨HR.out.1.up HR.out.2 h2, by rw [← HSZ.out]; exact hf⟩; have HO2 : Hid (OwP (r + 1 + 1) (.slice p0 q0 s0) (.slice p1 q1 s1) (.slice p2 q2 s2) p w2) := (by show OwP _ _ _ _ _ _; rw [← HSZ.out]; exact ho); clear h2 hf ho)
      | (with_reducible refine at_list ?_; refine hold_store 26 (.tmp 2) (.tmp 14) rfl ?_))
    refine wpList_store_row rfl 26 (.tmp 2) (.tmp 14) rfl n #[.string nm, .slice p0 q0 s0, .slice p1 q1 s1, .slice p2 q2 s2] rfl rfl 26 zPR H2.out.1.hp (ipR _ _ _ _) rfl (by simp [Value.oneCell']) ?_
    have h3 : PX n w #[.string nm, .slice p0 q0 s0, .slice p1 q1 s1, .slice p2 q2 s2] .nilIface (w2.setRow n #[.string nm, .slice p0 q0 s0, .slice p1 q1 s1, .slice p2 q2 s2]) := H2.out.1.row rfl
    have hf3 : FtP (fun b => n + 2 ≤ b ∧ b < w2.heap.size) (w2.setRow n #[.string nm, .slice p0 q0 s0, .slice p1 q1 s1, .slice p2 q2 s2]) (.slice p0 q0 s0) (.slice p1 q1 s1) (.slice p2 q2 s2) p := (H2.out.2.keep (fun b hb => setRow_other _ _ _ _ (by have := hb.1; have := HR.out.2; omega))).mono (fun b hb => ⟨by have := hb.1; have := HR.out.2; omega, hb.2⟩)
    rw [← size_setRow w2 n #[.string nm, .slice p0 q0 s0, .slice p1 q1 s1, .slice p2 q2 s2]] at hf3
    have ho3 : OwP (n + 2) (.slice p0 q0 s0) (.slice p1 q1 s1) (.slice p2 q2 s2) p (w2.setRow n #[.string nm, .slice p0 q0 s0, .slice p1 q1 s1, .slice p2 q2 s2]) := (HO2.out.keep (fun b hb _ => setRow_other _ _ _ _ (by have := HR.out.2; omega))).dn (by have := HR.out.2; omega)
    obtain ⟨w3, hw3⟩ : ∃ w3, w2.setRow n #[.string nm, .slice p0 q0 s0, .slice p1 q1 s1, .slice p2 q2 s2] = w3 := ⟨_, rfl⟩
    rw [hw3] at h3 hf3 ho3 ⊢
    have HO3 : Hid (OwP (n + 2) (.slice p0 q0 s0) (.slice p1 q1 s1) (.slice p2 q2 s2) p w3) := ho3
    have H3 : Hid (PX n w #[.string nm, .slice p0 q0 s0, .slice p1 q1 s1, .slice p2 q2 s2] .nilIface w3) := h3
    have HF3 : Hid (FtP (fun b => n + 2 ≤ b ∧ b < w3.heap.size) w3 (.slice p0 q0 s0) (.slice p1 q1 s1) (.slice p2 q2 s2) p) := hf3
    have hck := pcheck_any (ea := ea) (.agg #[.string nm, .slice p0 q0 s0, .slice p1 q1 s1, .slice p2 q2 s2]) p w3 (HE.out _ h3.old) (by rw [← hnm]; exact hf3.rd)
    have k0 := cell_of_row w3 n 0 _ _ _ h3.hp
    have k1 := cell_of_row w3 n 1 _ _ _ h3.hp
    have k2 := cell_of_row w3 n 2 _ _ _ h3.hp
    have k3 := cell_of_row w3 n 3 _ _ _ h3.hp
    simp at k0 k1 k2 k3
    have HCK : Hid _ := hck
    clear hw3 H2 HO2 HCP h3 hf3 ho3 hck
    go_upto_region 6 with (fail)
    go_upto_region 7 with (go_at_call 17; refine Calls.mono HCK.out ?_; rintro e w4 ⟨rfl, h4⟩; have H4 : Hid (PX n w #[.string nm, .slice p0 q0 s0, .slice p1 q1 s1, .slice p2 q2 s2] .nilIface w4) := H3.out.below h4; have HF4 : Hid (FtP (fun b => n + 2 ≤ b ∧ b < w4.heap.size) w4 (.slice p0 q0 s0) (.slice p1 q1 s1) (.slice p2 q2 s2) p) := (HF3.out.keep (fun b hb => h4.block b hb.2)).mono (fun b hb => ⟨hb.1, Nat.lt_of_lt_of_le hb.2 h4.size⟩); have HO4 : Hid (OwP (n + 2) (.slice p0 q0 s0) (.slice p1 q1 s1) (.slice p2 q2 s2) p w4) := HO3.out.keep (fun b _ hb => h4.block b hb); clear h4 k0 k1 k2 k3)
    have k0 := cell_of_row w4 n 0 _ _ _ H4.out.hp
    have k1 := cell_of_row w4 n 1 _ _ _ H4.out.hp
    have k2 := cell_of_row w4 n 2 _ _ _ H4.out.hp
    have k3 := cell_of_row w4 n 3 _ _ _ H4.out.hp
    have k4 := cell_of_row w4 (n + 1) 0 _ _ _ H4.out.he
    have f0 := frozen_of_row w4 n 0 _ _ H4.out.hp
    have f1 := frozen_of_row w4 n 1 _ _ H4.out.hp
    have f2 := frozen_of_row w4 n 2 _ _ H4.out.hp
    have f3 := frozen_of_row w4 n 3 _ _ H4.out.hp
    have f4 := frozen_of_row w4 (n + 1) 0 _ _ H4.out.he
    simp at k0 k1 k2 k3 k4
    clear H3 HF3 HO3 HCK
    by_cases hc : chk p = 0
    · rw [hc, EV_0]
      have HXP : Hid (prs t = (p, 0)) := by show prs t = _; rw [HX.out, hc]; rfl
      clear hc HX
      go_wp2
      have h9 := (((((H4.out.at 0 (.string nm)).at 1 (.slice p0 q0 s0)).at 2 (.slice p1 q1 s1)).at 3 (.slice p2 q2 s2)).er (e' := .nilIface))
      obtain ⟨w9, hw9⟩ : ∃ w9, w9 = (((((w4.setCell ⟨n, 0, none⟩ (.string nm)).setCell ⟨n, 1, none⟩ (.slice p0 q0 s0)).setCell ⟨n, 2, none⟩ (.slice p1 q1 s1)).setCell ⟨n, 3, none⟩ (.slice p2 q2 s2)).setCell ⟨n + 1, 0, none⟩ .nilIface) := ⟨_, rfl⟩
      rw [← hw9] at h9 ⊢
      have hft : FtP (fun b => n ≤ b ∧ b < w9.heap.size) w9 (.slice p0 q0 s0) (.slice p1 q1 s1) (.slice p2 q2 s2) p := by
        refine (HF4.out.keep (fun b hb => ?_)).mono (fun b hb => ⟨by have := hb.1; omega, by rw [hw9]; simp only [World.size_setCell]; exact hb.2⟩)
        have h1 := hb.1
        rw [hw9]
        rw [heap_setCell_other _ _ _ _ (by show b ≠ n + 1; omega), heap_setCell_other _ _ _ _ (by show b ≠ n; omega), heap_setCell_other _ _ _ _ (by show b ≠ n; omega), heap_setCell_other _ _ _ _ (by show b ≠ n; omega), heap_setCell_other _ _ _ _ (by show b ≠ n; omega)]
      have how : OwP n (.slice p0 q0 s0) (.slice p1 q1 s1) (.slice p2 q2 s2) p w9 := by
        refine (HO4.out.keep (fun b hb _ => ?_)).dn (by omega)
        rw [hw9]
        rw [heap_setCell_other _ _ _ _ (by show b ≠ n + 1; omega), heap_setCell_other _ _ _ _ (by show b ≠ n; omega), heap_setCell_other _ _ _ _ (by show b ≠ n; omega), heap_setCell_other _ _ _ _ (by show b ≠ n; omega), heap_setCell_other _ _ _ _ (by show b ≠ n; omega)]
      refine parse_end (e := .nilIface) h9 _ rfl rfl ⟨by rw [HN.out]; exact h9.old, _, _, _, by rw [HXP.out, ← hnm]; rfl, by rw [HXP.out, HN.out]; exact ⟨hft, how⟩⟩
    · have HXP : Hid (prs t = (zPt, chk p)) := by show prs t = _; rw [HX.out, if_pos hc]
      rw [EV_ne hc]
      obtain ⟨c, hcc⟩ : ∃ c, chk p = c := ⟨_, rfl⟩
      rw [hcc] at HXP hc ⊢
      clear hcc HX
      have HC : Hid (c ≠ 0) := hc
      clear hc
      go_wp2
      try go_region
      all_goals try go_wp2
      have h9 := (((((H4.out.at 0 (.string ⟨#[]⟩)).at 1 (.slice none 0 0)).at 2 (.slice none 0 0)).at 3 (.slice none 0 0)).er (e' := .iface 173 (.pointer (some (ea c)))))
      have h8 := h9.drew
      refine parse_end (e := .iface 173 (.pointer (some (ea c)))) (by first | exact h8 | exact h9) _ rfl rfl ⟨by rw [HN.out]; first | exact h9.old | exact h8.old, _, _, _, by rw [HXP.out, EV_ne HC.out]; rfl, by rw [HXP.out]; exact ⟨ftp_zero _ _, owp_zero _ _⟩⟩
theorem parse_any' {ea : Int → Addr} (t : ByteArray) (w : World) (hE : Errs ea w) (ht : t.size ≤ 140737488355328) :
    Calls Tryd.prog 70 #[.string t] w (PsP ea t w) :=
  (parse_own t w hE ht).mono fun e w' ⟨hb, v0, v1, vl, he, hf, _⟩ => ⟨hb, v0, v1, vl, he, hf⟩
theorem pparse_any {ea : Int → Addr} : ∀ (t : ByteArray) (W : World), Errs ea W → t.size ≤ 140737488355328 →
    Calls Tryd.prog 70 #[.string t] W fun e w' => ∃ v, e = .returned (.tuple #[v, EV ea (prs t).2]) ∧ RdP w' v (prs t).1 ∧ Below W.heap.size W w' := fun t W hE ht =>
  (parse_any' t W hE ht).mono fun e w' ⟨hb, v0, v1, vl, he, hf⟩ => ⟨_, he, hf.rd, hb⟩
end Go.Proofs.YtjhleocpipmklaaDoor
/- the table, az data -/
namespace Go.Pat
def tab : List Pt := [
  ⟨⟨#[73, 49, 75]⟩, [], [2], [(0, [1, 4, 2]), (1, [1, 3]), (0, [5])]⟩,
  ⟨⟨#[73, 49, 75, 49]⟩, [], [2], [(0, [1, 2]), (1, [1, 3, 4]), (0, [5])]⟩,
  ⟨⟨#[73, 49, 78]⟩, [], [], [(0, [1, 2]), (1, [1, 3]), (0, [5])]⟩,
  ⟨⟨#[73, 49, 88]⟩, [], [], [(0, [1, 2]), (1, [1, 3, 2, 4]), (0, [5])]⟩,
  ⟨⟨#[73, 49, 88, 49]⟩, [], [], [(0, [1, 2]), (1, [1, 3, 2]), (0, [5, 4])]⟩,
  ⟨⟨#[73, 75]⟩, [], [2], [(0, [1, 4, 2, 6]), (1, [1, 3, 5])]⟩,
  ⟨⟨#[73, 75, 49]⟩, [], [2], [(0, [1, 2]), (1, [1, 3, 5, 4])]⟩,
  ⟨⟨#[73, 78]⟩, [], [], [(0, [1, 2]), (1, [1, 3, 5])]⟩,
  ⟨⟨#[73, 88]⟩, [], [], [(0, [1, 2]), (1, [1, 3, 5, 2, 4])]⟩,
  ⟨⟨#[73, 88, 49]⟩, [], [], [(0, [1, 2]), (1, [1, 3, 5, 2]), (0, [4])]⟩,
  ⟨⟨#[75]⟩, [2], [2], [(0, [1, 4, 6])]⟩,
  ⟨⟨#[75, 49, 75]⟩, [2], [2], [(0, [1, 4]), (1, [1, 3]), (0, [5])]⟩,
  ⟨⟨#[75, 49, 75, 49]⟩, [2], [2], [(0, [1]), (1, [1, 3, 4]), (0, [5])]⟩,
  ⟨⟨#[75, 49, 78]⟩, [2], [], [(0, [1]), (1, [1, 3]), (0, [5])]⟩,
  ⟨⟨#[75, 49, 88]⟩, [2], [], [(0, [1]), (1, [1, 3, 2, 4]), (0, [5])]⟩,
  ⟨⟨#[75, 49, 88, 49]⟩, [2], [], [(0, [1]), (1, [1, 3, 2]), (0, [5, 4])]⟩,
  ⟨⟨#[75, 75]⟩, [2], [2], [(0, [1, 4, 6]), (1, [1, 3, 5])]⟩,
  ⟨⟨#[75, 75, 49]⟩, [2], [2], [(0, [1]), (1, [1, 3, 5, 4])]⟩,
  ⟨⟨#[75, 78]⟩, [2], [], [(0, [1]), (1, [1, 3, 5])]⟩,
  ⟨⟨#[75, 88]⟩, [2], [], [(0, [1]), (1, [1, 3, 5, 2, 4])]⟩,
  ⟨⟨#[75, 88, 49]⟩, [2], [], [(0, [1]), (1, [1, 3, 5, 2]), (0, [4])]⟩,
  ⟨⟨#[78]⟩, [], [2], [(0, [1, 4])]⟩,
  ⟨⟨#[78, 75]⟩, [], [2], [(0, [1, 4]), (1, [1, 3])]⟩,
  ⟨⟨#[78, 75, 49]⟩, [], [2], [(0, [1]), (1, [1, 3, 4])]⟩,
  ⟨⟨#[78, 78]⟩, [], [], [(0, [1]), (1, [1, 3])]⟩,
  ⟨⟨#[78, 88]⟩, [], [], [(0, [1]), (1, [1, 3, 2, 4])]⟩,
  ⟨⟨#[78, 88, 49]⟩, [], [], [(0, [1]), (1, [1, 3, 2]), (0, [4])]⟩,
  ⟨⟨#[88]⟩, [], [2], [(0, [1, 4, 2, 6])]⟩,
  ⟨⟨#[88, 49, 75]⟩, [], [2], [(0, [1, 4]), (1, [1, 3]), (0, [2]), (1, [5])]⟩,
  ⟨⟨#[88, 49, 75, 49]⟩, [], [2], [(0, [1]), (1, [1, 3, 4]), (0, [2]), (1, [5])]⟩,
  ⟨⟨#[88, 49, 78]⟩, [], [], [(0, [1]), (1, [1, 3]), (0, [2]), (1, [5])]⟩,
  ⟨⟨#[88, 49, 88]⟩, [], [], [(0, [1]), (1, [1, 3, 2, 4]), (0, [2]), (1, [5])]⟩,
  ⟨⟨#[88, 49, 88, 49]⟩, [], [], [(0, [1]), (1, [1, 3, 2]), (0, [4, 2]), (1, [5])]⟩,
  ⟨⟨#[88, 75]⟩, [], [2], [(0, [1, 4]), (1, [1, 3]), (0, [2, 5])]⟩,
  ⟨⟨#[88, 75, 49]⟩, [], [2], [(0, [1]), (1, [1, 3, 4]), (0, [2, 5])]⟩,
  ⟨⟨#[88, 78]⟩, [], [], [(0, [1]), (1, [1, 3]), (0, [2, 5])]⟩,
  ⟨⟨#[88, 88]⟩, [], [], [(0, [1]), (1, [1, 3, 2, 4]), (0, [2, 5])]⟩,
  ⟨⟨#[88, 88, 49]⟩, [], [], [(0, [1]), (1, [1, 3, 2]), (0, [4, 2, 5])]⟩]
theorem tab_len : tab.length = 38 := rfl
theorem tab_chk : tab.all (fun p => chk p == 0) = true := by decide +kernel
def fnd (nm : ByteArray) : Option Pt := tab.find? (fun p => p.nm == nm)
end Go.Pat
/- the program's table of texts, az data -/
namespace Go.Pat
set_option linter.unusedVariables false
set_option maxRecDepth 100000
/-- the program's table: names and texts -/
def tbl : List (ByteArray × ByteArray) := [
  (⟨#[78]⟩, ⟨#[78, 58, 10, 32, 32, 60, 45, 32, 115, 10, 32, 32, 46, 46, 46, 10, 32, 32, 45, 62, 32, 101, 44, 32, 101, 115, 10]⟩),
  (⟨#[75]⟩, ⟨#[75, 58, 10, 32, 32, 45, 62, 32, 115, 10, 32, 32, 60, 45, 32, 115, 10, 32, 32, 46, 46, 46, 10, 32, 32, 45, 62, 32, 101, 44, 32, 101, 115, 44, 32, 115, 115, 10]⟩),
  (⟨#[88]⟩, ⟨#[88, 58, 10, 32, 32, 60, 45, 32, 115, 10, 32, 32, 46, 46, 46, 10, 32, 32, 45, 62, 32, 101, 44, 32, 101, 115, 44, 32, 115, 44, 32, 115, 115, 10]⟩),
  (⟨#[78, 78]⟩, ⟨#[78, 78, 58, 10, 32, 32, 45, 62, 32, 101, 10, 32, 32, 60, 45, 32, 101, 44, 32, 101, 101, 10]⟩),
  (⟨#[78, 75]⟩, ⟨#[78, 75, 58, 10, 32, 32, 60, 45, 32, 115, 10, 32, 32, 46, 46, 46, 10, 32, 32, 45, 62, 32, 101, 44, 32, 101, 115, 10, 32, 32, 60, 45, 32, 101, 44, 32, 101, 101, 10]⟩),
  (⟨#[78, 88]⟩, ⟨#[78, 88, 58, 10, 32, 32, 45, 62, 32, 101, 10, 32, 32, 60, 45, 32, 101, 44, 32, 101, 101, 44, 32, 115, 44, 32, 101, 115, 10]⟩),
  (⟨#[88, 78]⟩, ⟨#[88, 78, 58, 10, 32, 32, 45, 62, 32, 101, 10, 32, 32, 60, 45, 32, 101, 44, 32, 101, 101, 10, 32, 32, 45, 62, 32, 115, 44, 32, 115, 101, 10]⟩),
  (⟨#[88, 75]⟩, ⟨#[88, 75, 58, 10, 32, 32, 60, 45, 32, 115, 10, 32, 32, 46, 46, 46, 10, 32, 32, 45, 62, 32, 101, 44, 32, 101, 115, 10, 32, 32, 60, 45, 32, 101, 44, 32, 101, 101, 10, 32, 32, 45, 62, 32, 115, 44, 32, 115, 101, 10]⟩),
  (⟨#[88, 88]⟩, ⟨#[88, 88, 58, 10, 32, 32, 45, 62, 32, 101, 10, 32, 32, 60, 45, 32, 101, 44, 32, 101, 101, 44, 32, 115, 44, 32, 101, 115, 10, 32, 32, 45, 62, 32, 115, 44, 32, 115, 101, 10]⟩),
  (⟨#[75, 78]⟩, ⟨#[75, 78, 58, 10, 32, 32, 45, 62, 32, 115, 10, 32, 32, 46, 46, 46, 10, 32, 32, 45, 62, 32, 101, 10, 32, 32, 60, 45, 32, 101, 44, 32, 101, 101, 44, 32, 115, 101, 10]⟩),
  (⟨#[75, 75]⟩, ⟨#[75, 75, 58, 10, 32, 32, 45, 62, 32, 115, 10, 32, 32, 60, 45, 32, 115, 10, 32, 32, 46, 46, 46, 10, 32, 32, 45, 62, 32, 101, 44, 32, 101, 115, 44, 32, 115, 115, 10, 32, 32, 60, 45, 32, 101, 44, 32, 101, 101, 44, 32, 115, 101, 10]⟩),
  (⟨#[75, 88]⟩, ⟨#[75, 88, 58, 10, 32, 32, 45, 62, 32, 115, 10, 32, 32, 46, 46, 46, 10, 32, 32, 45, 62, 32, 101, 10, 32, 32, 60, 45, 32, 101, 44, 32, 101, 101, 44, 32, 115, 101, 44, 32, 115, 44, 32, 101, 115, 10]⟩),
  (⟨#[73, 78]⟩, ⟨#[73, 78, 58, 10, 32, 32, 45, 62, 32, 101, 44, 32, 115, 10, 32, 32, 60, 45, 32, 101, 44, 32, 101, 101, 44, 32, 115, 101, 10]⟩),
  (⟨#[73, 75]⟩, ⟨#[73, 75, 58, 10, 32, 32, 60, 45, 32, 115, 10, 32, 32, 46, 46, 46, 10, 32, 32, 45, 62, 32, 101, 44, 32, 101, 115, 44, 32, 115, 44, 32, 115, 115, 10, 32, 32, 60, 45, 32, 101, 44, 32, 101, 101, 44, 32, 115, 101, 10]⟩),
  (⟨#[73, 88]⟩, ⟨#[73, 88, 58, 10, 32, 32, 45, 62, 32, 101, 44, 32, 115, 10, 32, 32, 60, 45, 32, 101, 44, 32, 101, 101, 44, 32, 115, 101, 44, 32, 115, 44, 32, 101, 115, 10]⟩),
  (⟨#[78, 75, 49]⟩, ⟨#[78, 75, 49, 58, 10, 32, 32, 60, 45, 32, 115, 10, 32, 32, 46, 46, 46, 10, 32, 32, 45, 62, 32, 101, 10, 32, 32, 60, 45, 32, 101, 44, 32, 101, 101, 44, 32, 101, 115, 10]⟩),
  (⟨#[78, 88, 49]⟩, ⟨#[78, 88, 49, 58, 10, 32, 32, 45, 62, 32, 101, 10, 32, 32, 60, 45, 32, 101, 44, 32, 101, 101, 44, 32, 115, 10, 32, 32, 45, 62, 32, 101, 115, 10]⟩),
  (⟨#[88, 49, 78]⟩, ⟨#[88, 49, 78, 58, 10, 32, 32, 45, 62, 32, 101, 10, 32, 32, 60, 45, 32, 101, 44, 32, 101, 101, 10, 32, 32, 45, 62, 32, 115, 10, 32, 32, 60, 45, 32, 115, 101, 10]⟩),
  (⟨#[88, 49, 75]⟩, ⟨#[88, 49, 75, 58, 10, 32, 32, 60, 45, 32, 115, 10, 32, 32, 46, 46, 46, 10, 32, 32, 45, 62, 32, 101, 44, 32, 101, 115, 10, 32, 32, 60, 45, 32, 101, 44, 32, 101, 101, 10, 32, 32, 45, 62, 32, 115, 10, 32, 32, 60, 45, 32, 115, 101, 10]⟩),
  (⟨#[88, 75, 49]⟩, ⟨#[88, 75, 49, 58, 10, 32, 32, 60, 45, 32, 115, 10, 32, 32, 46, 46, 46, 10, 32, 32, 45, 62, 32, 101, 10, 32, 32, 60, 45, 32, 101, 44, 32, 101, 101, 44, 32, 101, 115, 10, 32, 32, 45, 62, 32, 115, 44, 32, 115, 101, 10]⟩),
  (⟨#[88, 49, 75, 49]⟩, ⟨#[88, 49, 75, 49, 58, 10, 32, 32, 60, 45, 32, 115, 10, 32, 32, 46, 46, 46, 10, 32, 32, 45, 62, 32, 101, 10, 32, 32, 60, 45, 32, 101, 44, 32, 101, 101, 44, 32, 101, 115, 10, 32, 32, 45, 62, 32, 115, 10, 32, 32, 60, 45, 32, 115, 101, 10]⟩),
  (⟨#[88, 49, 88]⟩, ⟨#[88, 49, 88, 58, 10, 32, 32, 45, 62, 32, 101, 10, 32, 32, 60, 45, 32, 101, 44, 32, 101, 101, 44, 32, 115, 44, 32, 101, 115, 10, 32, 32, 45, 62, 32, 115, 10, 32, 32, 60, 45, 32, 115, 101, 10]⟩),
  (⟨#[88, 88, 49]⟩, ⟨#[88, 88, 49, 58, 10, 32, 32, 45, 62, 32, 101, 10, 32, 32, 60, 45, 32, 101, 44, 32, 101, 101, 44, 32, 115, 10, 32, 32, 45, 62, 32, 101, 115, 44, 32, 115, 44, 32, 115, 101, 10]⟩),
  (⟨#[88, 49, 88, 49]⟩, ⟨#[88, 49, 88, 49, 58, 10, 32, 32, 45, 62, 32, 101, 10, 32, 32, 60, 45, 32, 101, 44, 32, 101, 101, 44, 32, 115, 10, 32, 32, 45, 62, 32, 101, 115, 44, 32, 115, 10, 32, 32, 60, 45, 32, 115, 101, 10]⟩),
  (⟨#[75, 49, 78]⟩, ⟨#[75, 49, 78, 58, 10, 32, 32, 45, 62, 32, 115, 10, 32, 32, 46, 46, 46, 10, 32, 32, 45, 62, 32, 101, 10, 32, 32, 60, 45, 32, 101, 44, 32, 101, 101, 10, 32, 32, 45, 62, 32, 115, 101, 10]⟩),
  (⟨#[75, 49, 75]⟩, ⟨#[75, 49, 75, 58, 10, 32, 32, 45, 62, 32, 115, 10, 32, 32, 60, 45, 32, 115, 10, 32, 32, 46, 46, 46, 10, 32, 32, 45, 62, 32, 101, 44, 32, 101, 115, 10, 32, 32, 60, 45, 32, 101, 44, 32, 101, 101, 10, 32, 32, 45, 62, 32, 115, 101, 10]⟩),
  (⟨#[75, 75, 49]⟩, ⟨#[75, 75, 49, 58, 10, 32, 32, 45, 62, 32, 115, 10, 32, 32, 60, 45, 32, 115, 10, 32, 32, 46, 46, 46, 10, 32, 32, 45, 62, 32, 101, 10, 32, 32, 60, 45, 32, 101, 44, 32, 101, 101, 44, 32, 115, 101, 44, 32, 101, 115, 10]⟩),
  (⟨#[75, 49, 75, 49]⟩, ⟨#[75, 49, 75, 49, 58, 10, 32, 32, 45, 62, 32, 115, 10, 32, 32, 60, 45, 32, 115, 10, 32, 32, 46, 46, 46, 10, 32, 32, 45, 62, 32, 101, 10, 32, 32, 60, 45, 32, 101, 44, 32, 101, 101, 44, 32, 101, 115, 10, 32, 32, 45, 62, 32, 115, 101, 10]⟩),
  (⟨#[75, 49, 88]⟩, ⟨#[75, 49, 88, 58, 10, 32, 32, 45, 62, 32, 115, 10, 32, 32, 46, 46, 46, 10, 32, 32, 45, 62, 32, 101, 10, 32, 32, 60, 45, 32, 101, 44, 32, 101, 101, 44, 32, 115, 44, 32, 101, 115, 10, 32, 32, 45, 62, 32, 115, 101, 10]⟩),
  (⟨#[75, 88, 49]⟩, ⟨#[75, 88, 49, 58, 10, 32, 32, 45, 62, 32, 115, 10, 32, 32, 46, 46, 46, 10, 32, 32, 45, 62, 32, 101, 10, 32, 32, 60, 45, 32, 101, 44, 32, 101, 101, 44, 32, 115, 101, 44, 32, 115, 10, 32, 32, 45, 62, 32, 101, 115, 10]⟩),
  (⟨#[75, 49, 88, 49]⟩, ⟨#[75, 49, 88, 49, 58, 10, 32, 32, 45, 62, 32, 115, 10, 32, 32, 46, 46, 46, 10, 32, 32, 45, 62, 32, 101, 10, 32, 32, 60, 45, 32, 101, 44, 32, 101, 101, 44, 32, 115, 10, 32, 32, 45, 62, 32, 115, 101, 44, 32, 101, 115, 10]⟩),
  (⟨#[73, 49, 78]⟩, ⟨#[73, 49, 78, 58, 10, 32, 32, 45, 62, 32, 101, 44, 32, 115, 10, 32, 32, 60, 45, 32, 101, 44, 32, 101, 101, 10, 32, 32, 45, 62, 32, 115, 101, 10]⟩),
  (⟨#[73, 49, 75]⟩, ⟨#[73, 49, 75, 58, 10, 32, 32, 60, 45, 32, 115, 10, 32, 32, 46, 46, 46, 10, 32, 32, 45, 62, 32, 101, 44, 32, 101, 115, 44, 32, 115, 10, 32, 32, 60, 45, 32, 101, 44, 32, 101, 101, 10, 32, 32, 45, 62, 32, 115, 101, 10]⟩),
  (⟨#[73, 75, 49]⟩, ⟨#[73, 75, 49, 58, 10, 32, 32, 60, 45, 32, 115, 10, 32, 32, 46, 46, 46, 10, 32, 32, 45, 62, 32, 101, 44, 32, 115, 10, 32, 32, 60, 45, 32, 101, 44, 32, 101, 101, 44, 32, 115, 101, 44, 32, 101, 115, 10]⟩),
  (⟨#[73, 49, 75, 49]⟩, ⟨#[73, 49, 75, 49, 58, 10, 32, 32, 60, 45, 32, 115, 10, 32, 32, 46, 46, 46, 10, 32, 32, 45, 62, 32, 101, 44, 32, 115, 10, 32, 32, 60, 45, 32, 101, 44, 32, 101, 101, 44, 32, 101, 115, 10, 32, 32, 45, 62, 32, 115, 101, 10]⟩),
  (⟨#[73, 49, 88]⟩, ⟨#[73, 49, 88, 58, 10, 32, 32, 45, 62, 32, 101, 44, 32, 115, 10, 32, 32, 60, 45, 32, 101, 44, 32, 101, 101, 44, 32, 115, 44, 32, 101, 115, 10, 32, 32, 45, 62, 32, 115, 101, 10]⟩),
  (⟨#[73, 88, 49]⟩, ⟨#[73, 88, 49, 58, 10, 32, 32, 45, 62, 32, 101, 44, 32, 115, 10, 32, 32, 60, 45, 32, 101, 44, 32, 101, 101, 44, 32, 115, 101, 44, 32, 115, 10, 32, 32, 45, 62, 32, 101, 115, 10]⟩),
  (⟨#[73, 49, 88, 49]⟩, ⟨#[73, 49, 88, 49, 58, 10, 32, 32, 45, 62, 32, 101, 44, 32, 115, 10, 32, 32, 60, 45, 32, 101, 44, 32, 101, 101, 44, 32, 115, 10, 32, 32, 45, 62, 32, 115, 101, 44, 32, 101, 115, 10]⟩)]
/-- the place in 'tab' of each of the program's names -/
def tbI (k : ByteArray) : Option Pt := tab.find? (fun p => decide (p.nm = k))
theorem tbl_prs : (tbl.map fun e => prs e.2) = tbl.map fun e => ((tbI e.1).getD zPt, 0) := by kernel_rfl
theorem tbl_apart : (decide (tbl.Pairwise fun a b => ¬ a.1 = b.1)) = true := by kernel_rfl
theorem tbl_small : (tbl.all fun e => decide (e.1.size ≤ 100) && decide (e.2.size ≤ 4096)) = true := by kernel_rfl
theorem tab_in : (tab.all fun p => tbl.any fun e => decide (e.1 = p.nm)) = true := by kernel_rfl
theorem tbl_in : (tbl.all fun e => (tbI e.1).isSome) = true := by kernel_rfl
theorem tbl_len : tbl.length = 38 := rfl
/-- the program's look-up -/
def tbF (k : ByteArray) : Option (ByteArray × ByteArray) := tbl.find? fun e => decide (e.1 = k)
theorem tbF_some {k : ByteArray} {e : ByteArray × ByteArray} (h : tbF k = some e) : e.1 = k ∧ e ∈ tbl := by
  have h1 := List.find?_some h
  exact ⟨by simpa using h1, List.mem_of_find?_eq_some h⟩
theorem tbl_at {e : ByteArray × ByteArray} (h : e ∈ tbl) : prs e.2 = ((tbI e.1).getD zPt, 0) ∧ (tbI e.1).isSome = true ∧ e.2.size ≤ 4096 := by
  have h1 := tbl_prs
  rw [List.map_inj_left] at h1
  have h2 := List.all_eq_true.1 tbl_in e h
  have h3 := List.all_eq_true.1 tbl_small e h
  simp only [Bool.and_eq_true, decide_eq_true_eq] at h3
  exact ⟨h1 e h, h2, h3.2⟩
theorem tbF_none {k : ByteArray} (h : tbF k = none) : tbI k = none := by
  unfold tbF at h
  unfold tbI
  rw [List.find?_eq_none] at h ⊢
  intro p hp
  have h1 := List.all_eq_true.1 tab_in p hp
  rw [List.any_eq_true] at h1
  obtain ⟨e, he, h2⟩ := h1
  have h3 := h e he
  simp only [decide_eq_true_eq] at h2 h3 ⊢
  exact fun hk => h3 (h2.trans hk)
end Go.Pat
namespace Go.Proofs.YtjhleocpipmklaaDoor
set_option linter.unusedSimpArgs false
set_option linter.unusedVariables false
set_option maxRecDepth 100000
open Go.ChangeShapes Go.WideShapes Go.ChangeAt Go.RowKit Go.Pin Go.Pat Go.Deep
open Go.ChangeMaps (setBlock)
/-- the entries of a table of texts -/
def ents : List (ByteArray × ByteArray) → Nat → List MapEntry
  | [], _ => []
  | e :: r, c => ⟨.string e.1, .agg #[.string e.2], c⟩ :: ents r (c + 1)
theorem ents_snoc (e : ByteArray × ByteArray) : ∀ (L : List (ByteArray × ByteArray)) (c : Nat), ents (L ++ [e]) c = ents L c ++ [⟨.string e.1, .agg #[.string e.2], c + L.length⟩]
  | [], c => by simp [ents]
  | x :: r, c => by
    simp only [List.cons_append, ents, ents_snoc e r (c + 1), List.length_cons]
    rw [show c + 1 + r.length = c + (r.length + 1) by omega]
theorem same_now (a b : ByteArray) : Instr.sameNow .string (.string a) (.string b) = some (decide (b = a)) := by
  simp only [Instr.sameNow]
  congr 1
  by_cases h : b = a
  · rw [decide_eq_true h]
    exact (MapKept.bytes_beq a b).2 h.symm
  · rw [decide_eq_false h]
    exact Bool.eq_false_iff.2 fun e => h ((MapKept.bytes_beq a b).1 e).symm
theorem find_ents (nm : ByteArray) : ∀ (L : List (ByteArray × ByteArray)) (c i : Nat),
    (L.find? (fun e => decide (e.1 = nm)) = none → Instr.findNow .string (.string nm) (ents L c) i = some none) ∧
    ∀ e, L.find? (fun e => decide (e.1 = nm)) = some e → ∃ j, Instr.findNow .string (.string nm) (ents L c) i = some (some (j, .agg #[.string e.2]))
  | [], c, i => ⟨fun _ => rfl, fun e h => (by cases h)⟩
  | x :: r, c, i => by
    have ih := find_ents nm r (c + 1) (i + 1)
    rw [List.find?_cons]
    simp only [ents, Instr.findNow, same_now]
    by_cases h : x.1 = nm
    · rw [decide_eq_true h]
      simp only
      exact ⟨fun h => (by cases h), fun e he => (by cases he; exact ⟨i, rfl⟩)⟩
    · rw [decide_eq_false h]
      simp only
      exact ih
/-- block g is a map of these texts -/
def OM (g : Nat) (L : List (ByteArray × ByteArray)) (w : World) : Prop := w.heap[g]? = some (.map (ents L 0).toArray L.length)
theorem zero_entry (w : World) : (zeroValue 120).run Tryd.prog w = .ok (.agg #[.string ⟨#[]⟩]) w := by kernel_rfl
theorem run_look {w : World} {g : Nat} {L : List (ByteArray × ByteArray)} (h : OM g L w) (nm : ByteArray) (c : Bool) :
    (Instr.lookup 122 (.map (some g)) (.string nm) c).run Tryd.prog w = .ok (if c then .tuple #[.agg #[.string (((L.find? (fun e => decide (e.1 = nm))).map (·.2)).getD ⟨#[]⟩)], .bool (L.find? (fun e => decide (e.1 = nm))).isSome] else .agg #[.string (((L.find? (fun e => decide (e.1 = nm))).map (·.2)).getD ⟨#[]⟩)]) w := by
  have hf := find_ents nm L 0 0
  unfold OM at h
  have hk : MapKept.IsKey .string (.string nm) := by simp [MapKept.IsKey]
  cases hn : L.find? (fun e => decide (e.1 = nm)) with
  | none =>
    have := hf.1 hn
    simp [Instr.lookup, run_underlying Tryd.underlying122, MapKept.run_getObj_map h, MapKept.run_checkKey Tryd.underlying9 hk, MapKept.run_findKey Tryd.underlying9 this, zero_entry, Result.andThen]
  | some e =>
    obtain ⟨j, this⟩ := hf.2 e hn
    simp [Instr.lookup, run_underlying Tryd.underlying122, MapKept.run_getObj_map h, MapKept.run_checkKey Tryd.underlying9 hk, MapKept.run_findKey Tryd.underlying9 this, zero_entry, Result.andThen]
theorem run_insert {w : World} {g : Nat} {L : List (ByteArray × ByteArray)} (h : OM g L w) (k t : ByteArray) (hno : L.find? (fun e => decide (e.1 = k)) = none) :
    (Instr.mapUpdate 122 (.map (some g)) (.string k) (.agg #[.string t])).run Tryd.prog w = .ok () (setBlock w g (.map (ents (L ++ [(k, t)]) 0).toArray (L ++ [(k, t)]).length)) := by
  have hf := (find_ents k L 0 0).1 hno
  unfold OM at h
  have hk : MapKept.IsKey .string (.string k) := by simp [MapKept.IsKey]
  simp [Instr.mapUpdate, run_underlying Tryd.underlying122, MapKept.run_getObj_map h, MapKept.run_checkKey Tryd.underlying9 hk, MapKept.run_findKey Tryd.underlying9 hf, MapKept.run_setObj_map _ h, Result.andThen, setBlock, ents_snoc]
theorem OM.ins {w : World} {g : Nat} {L : List (ByteArray × ByteArray)} (h : OM g L w) (M : List (ByteArray × ByteArray)) : OM g M (setBlock w g (.map (ents M 0).toArray M.length)) :=
  (MapKept.heap_set h).1
theorem OM.lt {w : World} {g : Nat} {L : List (ByteArray × ByteArray)} (h : OM g L w) : g < w.heap.size := (Array.getElem?_eq_some_iff.1 h).1
theorem OM.below {w w' : World} {g : Nat} {L : List (ByteArray × ByteArray)} (h : OM g L w) (hb : Below w.heap.size w w') : OM g L w' := (hb.block g h.lt).trans h
theorem below_block {w wr : World} {g : Nat} {L : List (ByteArray × ByteArray)} {q : Nat} (hb : Below q w wr) (h : OM g L wr) (hq : q ≤ g) (o : Obj) : Below q w (setBlock wr g o) :=
  ⟨hb.os, hb.tape, hb.output, by have := hb.size; simpa [setBlock] using this, fun k hk => ((MapKept.heap_set h).2 k (by omega)).trans (hb.block k hk)⟩
/-- operations that lay a table of texts, one text after another -/
inductive Fits : Nat → List Oper → List (ByteArray × ByteArray) → List Oper → Prop
  | nil (d : Nat) (r : List Oper) : Fits d r [] r
  | cons {d : Nat} {o1 o2 : Oper} {os : List Oper} {k t : ByteArray} {L : List (ByteArray × ByteArray)} {r : List Oper} (h1 : o1.dst = some d ∧ o1.op = .build 120 #[(0, .const (.string t))] ∧ o1.guard = none) (h2 : o2.dst = none ∧ o2.op = .insert 122 (.tmp 1) (.const (.string k)) (.tmp d) ∧ o2.guard = none) (h : Fits (d + 1) os L r) : Fits d (o1 :: o2 :: os) ((k, t) :: L) r
theorem build_entry (t : ByteArray) (w : World) : (Instr.build 120 #[(0, .string t)]).run Tryd.prog w = .ok (.agg #[.string t]) w := by kernel_rfl
theorem fits_wp {all : Array Oper} {Q : Exit → Act → World → Prop} {g : Nat} {w0 : World} {r : List Oper} :
    ∀ (L M : List (ByteArray × ByteArray)) (d : Nat) (ops : List Oper) (a : Act) (w : World), Fits d ops L r → OM g M w → Below w0.heap.size w0 w → w0.heap.size ≤ g → ((M ++ L).Pairwise fun a b => ¬ a.1 = b.1) → 2 ≤ d → d + L.length ≤ a.tmps.size →
      a.tmps.getD 1 undef = .map (some g) →
      (∀ (a' : Act) (w' : World), a'.tmps.size = a.tmps.size → a'.defers = a.defers → a'.tmps.getD 1 undef = .map (some g) → OM g (M ++ L) w' → Below w0.heap.size w0 w' → wpList Tryd.prog all Q r a' w') → wpList Tryd.prog all Q ops a w
  | [], M, d, ops, a, w, hf, hm, hb, hg, hp, hd, hs, h1, hk => by
    cases hf
    exact hk a w rfl rfl h1 (by rw [List.append_nil]; exact hm) hb
  | e :: L, M, d, ops, a, w, hf, hm, hb, hg, hp, hd, hs, h1, hk => by
    cases hf with
    | @cons _ o1 o2 os k t _ _ q1 q2 hf =>
      obtain ⟨a1, a2, a3⟩ := q1
      obtain ⟨b1, b2, b3⟩ := q2
      have hno : M.find? (fun e => decide (e.1 = k)) = none := by
        rw [List.find?_eq_none]
        intro x hx
        have := (List.pairwise_append.1 hp).2.2 x hx (k, t) (List.mem_cons_self)
        simpa using this
      have hs' : d + (L.length + 1) ≤ a.tmps.size := hs
      refine wpList_plain a3 fun K hK => ?_
      unfold Oper.wp
      simp [execOp, a2, Act.eval, build_entry, Result.andThen]
      obtain ⟨a', ha'⟩ : ∃ a', a.put o1.dst (.agg #[.string t]) = a' := ⟨_, rfl⟩
      have p1 : a'.tmps.getD 1 undef = .map (some g) := by
        rw [← ha', a1]
        show (a.tmps.setIfInBounds d _).getD 1 undef = _
        rw [← h1]
        simp [Array.getD_eq_getD_getElem?, Array.getElem?_setIfInBounds, show ¬ d = 1 by omega]
      have p2 : a'.tmps.getD d undef = .agg #[.string t] := by
        rw [← ha', a1]
        show (a.tmps.setIfInBounds d _).getD d undef = _
        simp [Array.getD_eq_getD_getElem?, Array.getElem?_setIfInBounds, show d < a.tmps.size by omega]
      have p3 : a'.tmps.size = a.tmps.size ∧ a'.defers = a.defers := by
        rw [← ha', a1]
        exact ⟨by show (a.tmps.setIfInBounds d _).size = _; simp, rfl⟩
      have e1 : a'.eval (.tmp 1) = .map (some g) := p1
      have e2 : a'.eval (.tmp d) = .agg #[.string t] := p2
      have e3 : a'.eval (.const (.string k)) = .string k := rfl
      show K (a.put o1.dst (.agg #[.string t])) w
      rw [ha']
      refine hK _ _ (wpList_plain b3 fun K' hK' => ?_)
      unfold Oper.wp
      have hrun := run_insert hm k t hno
      obtain ⟨w1, hw1⟩ : ∃ w1, setBlock w g (.map (ents (M ++ [(k, t)]) 0).toArray (M ++ [(k, t)]).length) = w1 := ⟨_, rfl⟩
      rw [hw1] at hrun
      have hm1 : OM g (M ++ [(k, t)]) w1 := by rw [← hw1]; exact hm.ins _
      have hb1 : Below w0.heap.size w0 w1 := by rw [← hw1]; exact below_block hb hm hg _
      simp [execOp, b2, e1, e2, e3, hrun, Result.andThen]
      show K' (a'.put o2.dst undef) _
      rw [b1]
      refine hK' _ _ ?_
      refine fits_wp L (M ++ [(k, t)]) (d + 1) os _ _ hf hm1 hb1 hg (by simpa using hp) (by omega) ?_ p1 fun a2 w2 r1 r2 r3 r4 r5 => hk a2 w2 (r1.trans p3.1) (r2.trans p3.2) r3 (by simpa using r4) r5
      rw [show (a'.put none undef).tmps = a'.tmps from rfl, p3.1]
      omega
set_option maxHeartbeats 4000000 in
theorem table_any (w : World) : Calls Tryd.prog 69 #[] w fun e w' => e = .returned (.map (some w.heap.size)) ∧ OM w.heap.size tbl w' ∧ Below w.heap.size w w' := by
  go_enter Tryd.func69, Tryd.ntmps69
  refine wp_seq (wp_region_list ?_)
  refine wpList_plain rfl fun K hK => ?_
  show K _ w
  refine hK _ _ ?_
  show Code.wp _ _ _ _ w
  refine wp_seq (wp_region_list ?_)
  refine wpList_plain rfl fun K hK => ?_
  show K _ (w.alloc (.map #[] 0))
  refine hK _ _ ?_
  refine fits_wp (r := ?r) (g := w.heap.size) (w0 := w) tbl [] 2 _ _ _ ?fit (MapKept.heap_alloc w _).1 ((Below.refl _ _).alloc (Nat.le_refl _) _) (Nat.le_refl _) (of_decide_eq_true tbl_apart) (Nat.le_refl _) (by show 2 + 38 ≤ 41; decide) rfl ?_
  case fit =>
    repeat (refine Fits.cons ⟨rfl, rfl, rfl⟩ ⟨rfl, rfl, rfl⟩ ?_)
    exact Fits.nil _ _
  intro a' w' h1 h2 h3 h4 h5
  have h1' : a'.tmps.size = 41 := h1
  have h2' : a'.defers = [] := h2
  refine wpList_plain rfl fun K hK => ?_
  show K (a'.put (some 40) (a'.eval (.tmp 1))) w'
  refine hK _ _ ?_
  refine wpList_plain rfl fun K hK => ?_
  show K ((a'.put (some 40) (a'.eval (.tmp 1))).put (some 0) ((a'.put (some 40) (a'.eval (.tmp 1))).eval (.tmp 40))) w'
  refine hK _ _ ?_
  show Code.wp _ _ _ _ w'
  refine wp_ret ?_
  have e1 : a'.eval (.tmp 1) = .map (some w.heap.size) := h3
  rw [e1]
  have e2 : (a'.put (some 40) (.map (some w.heap.size))).eval (.tmp 40) = .map (some w.heap.size) := by
    show (a'.tmps.setIfInBounds 40 _).getD 40 undef = _
    simp [Array.getD_eq_getD_getElem?, Array.getElem?_setIfInBounds, h1']
  rw [e2]
  refine bodyPost_ret (v := .map (some w.heap.size)) ?_ h2' ⟨rfl, h4, h5⟩
  have e3 : ((a'.put (some 40) (.map (some w.heap.size))).put (some 0) (.map (some w.heap.size))).tmps.getD 0 undef = .map (some w.heap.size) := by
    show ((a'.tmps.setIfInBounds 40 _).setIfInBounds 0 _).getD 0 undef = _
    simp [Array.getD_eq_getD_getElem?, Array.getElem?_setIfInBounds, h1']
  simp [results, Tryd.results69, Array.getD_eq_getD_getElem?] at e3 ⊢
  rw [e3]
end Go.Proofs.YtjhleocpipmklaaDoor
