import Derived.OwnWalk
import Derived.BigQuiet
import Derived.Deep.QuietTactic
import Derived.Deep.RegionHeld3
import Derived.Test.YtpfidohkohldaaaGreatDoorMqap
import Derived.Test.YtpfidohkohldaaaGreatDoorMqaa
/- lists of numbers of one's own, several beside each other -/
namespace Go.Proofs.YtpfidohkohldaaaGreatDoor
set_option linter.unusedSimpArgs false
set_option linter.unusedVariables false
set_option maxRecDepth 100000
open Go.ChangeShapes Go.WideShapes Go.ChangeAt Go.RowKit Go.Pin Go.Pat
theorem own_appN {w : World} {b : Nat} {v : Value} {n : Nat} {xs : List Value} (hown : w.ownsRow b 3 1 v n xs) {u : Value} {C : List Int} (hu : RdN w u C) (hn : n + C.length ≤ 1000000) (hb : b ≤ w.heap.size) :
    ∀ ty, ∃ v' w', (Builtin.append_ #[22, 22] ty #[v, u]).run Tryz.prog w = .ok v' w' ∧ (w'.ownsRow b 3 1 v' (n + C.length) (xs ++ C.map (Value.int .i64)) ∧ w.grownBy w' v.ownBlock ∧ (v'.ownBlock = v.ownBlock ∨ v'.ownBlock = some w.heap.size)) := fun ty => by
  obtain ⟨i, i1, hz'⟩ := Option.map_eq_some_iff.1 parts_int
  simp only [Prod.mk.injEq] at hz'
  obtain ⟨i2, i3, i4⟩ := hz'
  obtain ⟨a, cap, rfl, ⟨hc1, hc0⟩, _, h3⟩ := hu
  cases a with
  | none =>
    have hcap := hc0 rfl
    obtain rfl : C = [] := List.length_eq_zero_iff.1 (by omega)
    subst hcap
    exact ⟨v, w, run_append_owned_none (P := Tryz.prog) w b 22 ty 3 i 1 Tryz.underlying22 i1 _ n xs hown, by simpa using hown, World.grownBy.refl _ _, .inl rfl⟩
  | some ad =>
    obtain ⟨v', w', hr, h2, h4, _, h5⟩ := run_append_own_at (P := Tryz.prog) w b 22 ty 3 i (.int .i64 0) 1 8 Tryz.underlying22 i1 i2 i3 i4 rfl (by decide) v n xs hown ad C.length cap (C.map (Value.int .i64)) (by rw [List.length_map, Nat.mul_one]) (fun j x hx => by
      rcases h3 with h3 | ⟨bb, o, e, hr⟩
      · subst h3; simp at hx
      · injection e with e
        subst e
        rw [Addr.add_lit]
        exact hr j x hx) (ints_oneCell _ _) (by unfold maxLen; omega) (by omega) hb
    exact ⟨v', w', hr, h2, h4, h5⟩
/-- the blocks of the lines' lists -/
def obs (fs : List Lv) : List Nat := fs.filterMap fun f => f.2.1.ownBlock
/-- lists of one's own: none shares a block with another, nor with those ahead -/
structure OS (base : Nat) (pre : List Nat) (fs : List Lv) (w : World) : Prop where
  own : ∀ f ∈ fs, w.ownsRow base 3 1 f.2.1 f.2.2.length (f.2.2.map (Value.int .i64))
  nd : (pre ++ obs fs).Nodup
theorem obs_mem {fs : List Lv} {f : Lv} {k : Nat} (hf : f ∈ fs) (hk : f.2.1.ownBlock = some k) : k ∈ obs fs := List.mem_filterMap.2 ⟨f, hf, hk⟩
theorem obs_app (fs gs : List Lv) : obs (fs ++ gs) = obs fs ++ obs gs := List.filterMap_append
theorem obs_one (f : Lv) : obs [f] = f.2.1.ownBlock.toList := by
  unfold obs
  cases h : f.2.1.ownBlock <;> simp [h]
theorem nodup_ins {A B C : List Nat} {o : Option Nat} (h : (A ++ (B ++ C)).Nodup) (hn : ∀ k, o = some k → k ∉ A ∧ k ∉ B ∧ k ∉ C) : (A ++ (B ++ (o.toList ++ C))).Nodup := by
  cases o with
  | none => simpa using h
  | some k =>
    obtain ⟨h1, h2, h3⟩ := hn k rfl
    have hp : List.Perm (A ++ (B ++ ([k] ++ C))) (k :: (A ++ (B ++ C))) := by
      have e : A ++ (B ++ ([k] ++ C)) = (A ++ B) ++ k :: C := by simp
      rw [e]
      have := List.perm_middle (a := k) (l₁ := A ++ B) (l₂ := C)
      simpa using this
    show (A ++ (B ++ ([k] ++ C))).Nodup
    rw [hp.nodup_iff, List.nodup_cons]
    exact ⟨by simp [h1, h2, h3], h⟩
section
variable {base : Nat} {pre : List Nat} {fs : List Lv} {w w' : World}
theorem OS.lt (h : OS base pre fs w) : ∀ k ∈ obs fs, base ≤ k ∧ k < w.heap.size := fun k hk => by
  obtain ⟨f, hf, e⟩ := List.mem_filterMap.1 hk
  exact (h.own f hf).lt k e
/-- blocks of these lists stay -/
theorem OS.keep (h : OS base pre fs w) (hk : ∀ k ∈ obs fs, w'.heap[k]? = w.heap[k]?) : OS base pre fs w' := by
  refine ⟨fun f hf => ⟨(h.own f hf).1, ?_⟩, h.nd⟩
  rcases (h.own f hf).2 with h0 | ⟨b, cap, cur, e, h1, hg, hr⟩
  · exact .inl h0
  · have : f.2.1.ownBlock = some b := by rw [e]; rfl
    exact .inr ⟨b, cap, cur, e, h1, (hk b (obs_mem hf this)).trans hg, hr⟩
theorem OS.below (h : OS base pre fs w) (hb : Below w.heap.size w w') : OS base pre fs w' := h.keep fun k hk => hb.block k (h.lt k hk).2
theorem OS.snoc (h : OS base pre fs w) {f : Int} {u : Value} {C : List Int} (hu : w.ownsRow base 3 1 u C.length (C.map (Value.int .i64))) (hn : ∀ k, u.ownBlock = some k → k ∉ pre ∧ k ∉ obs fs) : OS base pre (fs ++ [(f, u, C)]) w := by
  refine ⟨fun x hx => ?_, ?_⟩
  · rcases List.mem_append.1 hx with hx | hx
    · exact h.own x hx
    · obtain rfl : x = (f, u, C) := by simpa using hx
      exact hu
  · rw [obs_app, obs_one]
    have := nodup_ins (A := pre) (B := obs fs) (C := []) (o := u.ownBlock) (by simpa using h.nd) (fun k hk => ⟨(hn k hk).1, (hn k hk).2, by simp⟩)
    simpa using this
/-- a list grows: it alone -/
theorem OS.grow (h : OS base pre fs w) {row : Option Nat} (hg : w.grownBy w' row) (hr : ∀ k, row = some k → k ∉ obs fs) : OS base pre fs w' :=
  h.keep fun k hk => hg.block k (h.lt k hk).2 (fun e => hr k e.symm hk)
theorem OS.ahead (h : OS base pre fs w) {p' : List Nat} (hp : p'.Nodup) (hd : ∀ k ∈ p', k ∉ obs fs) : OS base p' fs w := by
  refine ⟨h.own, ?_⟩
  rw [List.nodup_append]
  have := (List.nodup_append.1 h.nd).2.1
  exact ⟨hp, this, fun a ha b hb e => hd a ha (e ▸ hb)⟩
end
theorem own_keep {w w' : World} {b : Nat} {e : TypeId} {k n : Nat} {v : Value} {xs : List Value} (h : w.ownsRow b e k v n xs) (hk : ∀ g, v.ownBlock = some g → w'.heap[g]? = w.heap[g]?) : w'.ownsRow b e k v n xs := by
  refine ⟨h.1, ?_⟩
  rcases h.2 with h0 | ⟨g, cap, cur, rfl, h1, hg, hr⟩
  · exact .inl h0
  · exact .inr ⟨g, cap, cur, rfl, h1, (hk g rfl).trans hg, hr⟩
theorem os_nil (base : Nat) (w : World) : OS base [] [] w := ⟨fun f hf => by simp at hf, by simp [obs]⟩
/-- the empty list that is not nil -/
theorem own_empty (w : World) (b : Nat) (hb : b ≤ w.heap.size) : (w.alloc (.cells #[] 3)).ownsRow b 3 1 (.slice (some ⟨w.heap.size, 0, none⟩) 0 0) 0 [] :=
  ⟨by simp, .inr ⟨w.heap.size, 0, #[], rfl, hb, heap_alloc_new _ _, Nat.le_refl _, by simp [maxLen], rfl, by simp⟩⟩
end Go.Proofs.YtpfidohkohldaaaGreatDoor
namespace Go.Proofs.YtpfidohkohldaaaGreatDoor
set_option linter.unusedSimpArgs false
set_option linter.unusedVariables false
set_option maxRecDepth 100000
open Go.ChangeShapes Go.WideShapes Go.ChangeAt Go.RowKit Go.Pin Go.Pat Go.Deep
def Fq (q : Nat) (vl : Value) (w : World) (b : Nat) : Prop := q ≤ b ∧ b < w.heap.size ∧ some b ≠ vl.ownBlock
/-- rows that are read, beside the reader -/
structure LS (q r : Nat) (w0 : World) (rest : List UInt8) (vl : Value) (fs : List Lv) (wr : World) : Prop where
  up : Up r w0 wr
  hq : w0.heap.size = q
  rq : r < q
  rb : RB r rest wr
  own : wr.ownsRow q 43 2 vl fs.length (lvc fs)
  ft : ∀ f ∈ fs, FtN (Fq q vl wr) wr f.2.1 f.2.2
  ow : ∀ f ∈ fs, wr.ownsRow q 3 1 f.2.1 f.2.2.length (f.2.2.map (Value.int .i64))
  nd : (obs fs).Nodup
/-- rows of two types lie in two blocks -/
theorem own_ne {w : World} {b b' : Nat} {e e' : TypeId} {k k' n n' : Nat} {v v' : Value} {xs xs' : List Value} (h : w.ownsRow b e k v n xs) (h' : w.ownsRow b' e' k' v' n' xs') (hne : e ≠ e') {g : Nat} (hg : v.ownBlock = some g) : v'.ownBlock ≠ some g := fun h2 => by
  rcases h.2 with ⟨rfl, _⟩ | ⟨g', cap, cur, rfl, _, h1, _⟩
  · cases hg
  · rcases h'.2 with ⟨rfl, _⟩ | ⟨g2, cap', cur', rfl, _, h3, _⟩
    · cases h2
    · injection hg with hg
      injection h2 with h2
      subst hg h2
      rw [h1] at h3
      injection h3 with h3
      injection h3 with _ h3
      exact hne h3
theorem own_dn {w : World} {b b2 : Nat} {e : TypeId} {k n : Nat} {v : Value} {xs : List Value} (h : w.ownsRow b e k v n xs) (hb : b2 ≤ b) : w.ownsRow b2 e k v n xs := by
  refine ⟨h.1, ?_⟩
  rcases h.2 with h0 | ⟨g, cap, cur, rfl, h1, hr⟩
  · exact .inl h0
  · exact .inr ⟨g, cap, cur, rfl, Nat.le_trans hb h1, hr⟩
section
variable {q r : Nat} {w0 wr w' : World} {rest : List UInt8} {vl : Value} {fs : List Lv}
theorem LS.size (h : LS q r w0 rest vl fs wr) : q ≤ wr.heap.size := by have := h.up.size; have := h.hq; omega
theorem LS.on (h : LS q r w0 rest vl fs wr) (hu : Up r wr w') {rest' : List UInt8} (hr : RB r rest' w') : LS q r w0 rest' vl fs w' := by
  have hrq := h.rq
  refine ⟨h.up.trans hu, h.hq, h.rq, hr, owns_up hu h.rq h.own, fun f hf => ?_, fun f hf => owns_up hu h.rq (h.ow f hf), h.nd⟩
  exact ((h.ft f hf).keep (fun b hb => hu.block b hb.2.1 (by have := hb.1; omega))).mono (fun b hb => ⟨hb.1, Nat.lt_of_lt_of_le hb.2.1 hu.size, hb.2.2⟩)
/-- what a call has made lies in free blocks -/
theorem LS.new (h : LS q r w0 rest vl fs wr) {w2 : World} (hs : wr.heap.size ≤ w2.heap.size) {v : Value} {C : List Int} (hf : FtN (fun k => wr.heap.size ≤ k ∧ k < w2.heap.size) w2 v C) : FtN (Fq q vl w2) w2 v C :=
  hf.mono fun b hb => ⟨by have := h.size; omega, hb.2, fun e => by have := (h.own.lt b e.symm).2; omega⟩
theorem LS.app (h : LS q r w0 rest vl fs wr) (hn : fs.length ≤ 1000000) {a : Nat} {f : Int} {u : Value} {C : List Int} (hf : FtN (Fq q vl wr) wr u C) (hu : wr.ownsRow q 3 1 u C.length (C.map (Value.int .i64))) (hnd : ∀ g, u.ownBlock = some g → g ∉ obs fs) (hc : wr.heap[a]? = some (.cells #[.int .i64 f, u] 43)) :
    ∀ ty, ∃ v' w', (Builtin.append_ #[24, 24] ty #[vl, .slice (some ⟨a, 0, none⟩) 1 1]).run Tryz.prog wr = .ok v' w' ∧ LS q r w0 rest v' (fs ++ [(f, u, C)]) w' := fun ty => by
  have hqs := h.size
  obtain ⟨v', w', hr, h2, h3, h4⟩ := own_app Tryz.underlying24 parts_line rfl (by decide) h.own (news := [.int .i64 f, u]) hc rfl (fun x hx => by simp at hx; rcases hx with rfl | rfl; rfl; exact hf.one) (by omega) (by omega) h.size ty
  have hbl : Below q wr w' := (Below.refl _ _).grown h3 hqs (fun k hk => (h.own.lt k hk).1)
  have hS : ∀ b, Fq q vl wr b → Fq q v' w' b := fun b hb => ⟨hb.1, Nat.lt_of_lt_of_le hb.2.1 h3.size, fun e => by
    rcases h4 with h4 | h4
    · exact hb.2.2 (e.trans h4)
    · rw [h4] at e
      injection e with e
      have := hb.2.1
      omega⟩
  have hk : ∀ b, Fq q vl wr b → w'.heap[b]? = wr.heap[b]? := fun b hb => h3.block b hb.2.1 hb.2.2
  refine ⟨v', w', hr, h.up.on hbl (by rw [h.hq]; exact Nat.le_refl _), h.hq, h.rq, h.rb.on hbl h.rq, ?_, fun g hg => ?_, fun g hg => ?_, ?_⟩
  · rw [List.length_append, lvc_snoc]
    exact h2
  · rcases List.mem_append.1 hg with hg | hg
    · exact ((h.ft g hg).keep hk).mono hS
    · rw [List.mem_singleton.1 hg]
      exact (hf.keep hk).mono hS
  · have hkp : ∀ {v : Value} {D : List Int}, wr.ownsRow q 3 1 v D.length (D.map (Value.int .i64)) → w'.ownsRow q 3 1 v D.length (D.map (Value.int .i64)) := fun ho => own_keep ho (fun b hb => h3.block b (ho.lt b hb).2 (fun e => own_ne ho h.own (by decide) hb e.symm))
    rcases List.mem_append.1 hg with hg | hg
    · exact hkp (h.ow g hg)
    · rw [List.mem_singleton.1 hg]
      exact hkp hu
  · rw [obs_app, obs_one, List.nodup_append]
    refine ⟨h.nd, by cases u.ownBlock <;> simp, fun k hk m hm e => ?_⟩
    subst e
    exact hnd k (by simpa using hm) hk
end
theorem ls_start {r : Nat} {w : World} {l : List UInt8} (h : RB r l w) : LS w.heap.size r w l (.slice none 0 0) [] w :=
  ⟨Up.refl _ _, rfl, h.lt, h, own_nil0 _ _ _ _, fun f hf => by simp at hf, fun f hf => by simp at hf, by simp [obs]⟩
def RwsP (ea : Int → Addr) (r : Nat) (l : List UInt8) (w : World) (e : Ending) (w' : World) : Prop :=
  match rowsL l with
    | none => e = PN ea ∧ Up r w w'
    | some (R, rest) => ∃ vl fs, e = .returned vl ∧ lvl fs = R ∧ LS w.heap.size r w rest vl fs w'
set_option maxHeartbeats 4000000 in
theorem rows_any' {ea : Int → Addr} (r : Nat) (l : List UInt8) (hl : l.length ≤ 4096) (w : World) (hE : ∀ y, Up r w y → Errs ea y) (h : RB r l w) :
    Calls Tryz.prog 42 #[.pointer (some ⟨r, 0, none⟩)] w (RwsP ea r l w) := by
  obtain ⟨q, hq⟩ : ∃ q, w.heap.size = q := ⟨_, rfl⟩
  have hst := ls_start h
  rw [hq] at hst
  have HS : Hid (LS q r w l (.slice none 0 0) [] w) := hst
  have HE : Hid (∀ y, Up r w y → Errs ea y) := hE
  have HL : Hid (l.length ≤ 4096 ∧ w.heap.size = q) := ⟨hl, hq⟩
  have HHD : Hid (∀ y, Up r w y → y.cell? ⟨6, 1, none⟩ = some (.string (hdr 1))) := fun y hy => head_at (hE y hy).2 1 (by decide)
  clear h hst hE hl
  go_enter Tryz.func42, Tryz.ntmps42
  go_wp2
  go_loopw [3] (fun v3 wr => ∃ (fs : List Lv) (r2 : List UInt8), LS q r w r2 v3 fs wr ∧ rowsL l = (rowsL r2).map (fun x => (lvl fs ++ x.1, x.2)) ∧ fs.length + r2.length ≤ 4096) (fun v _ => 5000 - vlen v)
  case atStart =>
    refine ⟨[], l, HS.out, ?_, by have := HL.out.1; show 0 + _ ≤ _; omega⟩
    cases rowsL l with
    | none => rfl
    | some x => rfl
  case round =>
    obtain ⟨fs, r2, hx, hrw, hle⟩ := hrel
    obtain ⟨a, cap, rfl⟩ := own_slice' hx.own
    have HX0 : Hid (LS q r w r2 (.slice a fs.length cap) fs wr) := hx
    have HLE : Hid (fs.length + r2.length ≤ 4096) := hle
    have CK0 := take_any r r2 (hdr 0) wr hx.rb
    rw [show toL (hdr 0) = hA from rfl] at CK0
    have hd0 := head_at (HE.out wr hx.up).2 0 (by decide)
    cases hp : pfx hA r2 with
    | true =>
      have HX : Hid (LS q r w r2 (.slice a fs.length cap) fs wr) := hx
      clear hx hle
      have etk : tke hA r2 = r2.drop 5 := by unfold tke; rw [hp]; rfl
      have hl2 : (r2.drop 5).length + 5 ≤ r2.length := by
        have := congrArg List.length (pfx_true hp)
        rw [List.length_append] at this
        have e2 : hA.length = 5 := rfl
        rw [e2] at this
        omega
      have CT : ∀ y, Up r w y → RB r (r2.drop 5) y → Calls Tryz.prog 65 #[.pointer (some ⟨r, 0, none⟩)] y (TksP ea r (r2.drop 5) y) := fun y hy hb => tokens_any' r _ (by have := HLE.out; omega) y (fun z hz => HE.out z (hy.trans hz)) hb
      unfold TksP at CT
      rw [hp, etk] at CK0
      have hrl := rowsL_A hp
      cases ht : toksL (r2.drop 5) with
      | none =>
        have HR : Hid (rowsL l = none) := by show rowsL l = none; rw [hrw, hrl, ht]; rfl
        simp only [ht] at CT
        have HCT : Hid _ := CT
        have HCK0 : Hid _ := CK0
        clear CT CK0 ht hp etk hrl hrw hl2
        go_wp2_with (first
          | (go_at_call 43; refine Calls.mono HCK0.out ?_; rintro e w2 ⟨rfl, h1, h2⟩; have H2 : Hid (LS q r w (r2.drop 5) (.slice a fs.length cap) fs w2) := HX.out.on h2 h1; clear h1 h2)
          | (go_at_call 65; refine (HCT.out _ H2.out.up H2.out.rb).mono ?_; rintro e w3 ⟨h1, rfl⟩; have H3 : Hid (Up r w w3) := H2.out.up.trans h1; clear h1))
        refine ⟨rfl, ?_⟩
        unfold RwsP
        rw [HR.out]
        exact ⟨rfl, H3.out⟩
      | some x =>
        obtain ⟨ts, r3⟩ := x
        have HR : Hid (rowsL l = (rowsL r3).map (fun x => (lvl fs ++ [(0, ts)] ++ x.1, x.2)) ∧ r3.length < (r2.drop 5).length ∧ (r2.drop 5).length + 5 ≤ r2.length) := by
          refine ⟨?_, (toksL_bck ht).2.2.2, hl2⟩
          rw [hrw, hrl, ht]
          simp only
          cases rowsL r3 with
          | none => rfl
          | some y => simp
        have hts : ts.length ≤ 4096 := by
          have := congrArg List.length (toksL_bck ht).1
          have := WL_len ts (toksL_bck ht).2.2.1
          rw [List.length_append] at *
          have := HLE.out
          omega
        simp only [ht] at CT
        have HCT : Hid _ := CT
        have HCK0 : Hid _ := CK0
        have HTS : Hid (ts.length ≤ 4096) := hts
        clear CT CK0 ht hp etk hrl hrw hl2 hts
        go_upto_region 4 with (first
          | (go_at_call 43; refine Calls.mono HCK0.out ?_; rintro e w2 ⟨rfl, h1, h2⟩; have H2 : Hid (LS q r w (r2.drop 5) (.slice a fs.length cap) fs w2) := HX.out.on h2 h1; clear h1 h2 hd0))
        have HAP : Hid (∀ y z u, LS q r w r3 (.slice a fs.length cap) fs y → z.heap.size ≤ y.heap.size → y.ownsRow z.heap.size 3 1 u ts.length (ts.map (Value.int .i64)) → (LS q r w (r2.drop 5) (.slice a fs.length cap) fs z) → ∀ ty, ∃ v' w', (Builtin.append_ #[24, 24] ty #[.slice a fs.length cap, .slice (some ⟨y.heap.size, 0, none⟩) 1 1]).run Tryz.prog (y.alloc (.cells #[.int .i64 0, u] 43)) = .ok v' w' ∧ LS q r w r3 v' (fs ++ [(0, u, ts)]) w') := fun y z u h1 hsz h2 h3 ty => by
          have hal : Below y.heap.size y (y.alloc (.cells #[.int .i64 0, u] 43)) := (Below.refl _ _).alloc (Nat.le_refl _) _
          have hft := h3.new hsz (own_ft h2 rfl (by have := HTS.out; omega))
          have hft2 : FtN (Fq q (.slice a fs.length cap) (y.alloc (.cells #[.int .i64 0, u] 43))) (y.alloc (.cells #[.int .i64 0, u] 43)) u ts := (hft.keep (fun b hb => hal.block b hb.2.1)).mono (fun b hb => ⟨hb.1, Nat.lt_of_lt_of_le hb.2.1 hal.size, hb.2.2⟩)
          exact (h1.on (Up.of hal) (h1.rb.below hal)).app (by have := HLE.out; omega) hft2 (own_dn (h2.alloc _) h3.size) (fun g hg hm => by obtain ⟨f, hf, hfg⟩ := List.mem_filterMap.1 hm; have := ((h3.ow f hf).lt g hfg).2; have := (h2.lt g hg).1; omega) (heap_alloc_new _ _) ty
        go_wp2_with (first
          | (go_at_call 65; refine (HCT.out _ H2.out.up H2.out.rb).mono ?_; rintro e w3 ⟨h1, u, rfl, h2, h3⟩; obtain ⟨ua, uc, rfl⟩ := own_slice' h2; have H3 : Hid (LS q r w r3 (.slice a fs.length cap) fs w3 ∧ w2.heap.size ≤ w3.heap.size ∧ w3.ownsRow w2.heap.size 3 1 (.slice ua ts.length uc) ts.length (ts.map (Value.int .i64))) := ⟨H2.out.on h1 h3, h1.size, h2⟩; clear h1 h2 h3)
          | (at_builtin; go_loud (refine wpList_app _ rfl (.tmp 10) (.tmp 14) 24 24 rfl _ _ rfl rfl (HAP.out w3 w2 _ H3.out.1 H3.out.2.1 H3.out.2.2 H2.out) ?_; rintro v' w4 h1; have H4 : Hid (LS q r w r3 v' (fs ++ [(0, .slice ua ts.length uc, ts)]) w4) := h1; clear h1)))
        obtain ⟨a', cap', rfl⟩ := own_slice' H4.out.own
        refine ⟨⟨_, r3, H4.out, ?_, ?_⟩, ?_⟩
        · rw [lvl_snoc]; exact HR.out.1
        · have := HR.out.2; have := HLE.out; rw [List.length_append]; simp only [List.length_cons, List.length_nil]; omega
        · have := HLE.out; show 5000 - (fs ++ [_]).length < 5000 - fs.length; rw [List.length_append]; simp only [List.length_cons, List.length_nil]; omega
    | false =>
      have hp0 := hp
      have etk0 : tke hA r2 = r2 := by unfold tke; rw [hp]; rfl
      rw [hp, etk0] at CK0
      have HCK0 : Hid _ := CK0
      clear hp etk0 CK0 hx hle
      go_upto_region 5 with (first
        | (go_at_call 43; have HQQ := hd0; refine Calls.mono HCK0.out ?_; rintro e w1 ⟨rfl, h1, h2⟩; have H1 : Hid (LS q r w r2 (.slice a fs.length cap) fs w1) := HX0.out.on h2 h1; have hd1 := HHD.out w1 H1.out.up; clear h1 h2 hd0 HQQ))
      have HX : Hid (LS q r w r2 (.slice a fs.length cap) fs w1) := H1.out
      have CK1 := take_any r r2 (hdr 1) w1 H1.out.rb
      rw [show toL (hdr 1) = hB from rfl] at CK1
      cases hp : pfx hB r2 with
      | true =>
        have etk : tke hB r2 = r2.drop 5 := by unfold tke; rw [hp]; rfl
        have hl2 : (r2.drop 5).length + 5 ≤ r2.length := by
          have := congrArg List.length (pfx_true hp)
          rw [List.length_append] at this
          have e2 : hB.length = 5 := rfl
          rw [e2] at this
          omega
        have CT : ∀ y, Up r w y → RB r (r2.drop 5) y → Calls Tryz.prog 65 #[.pointer (some ⟨r, 0, none⟩)] y (TksP ea r (r2.drop 5) y) := fun y hy hb => tokens_any' r _ (by have := HLE.out; omega) y (fun z hz => HE.out z (hy.trans hz)) hb
        unfold TksP at CT
        rw [hp, etk] at CK1
        have hrl := rowsL_B hp0 hp
        cases ht : toksL (r2.drop 5) with
        | none =>
          have HR : Hid (rowsL l = none) := by show rowsL l = none; rw [hrw, hrl, ht]; rfl
          simp only [ht] at CT
          have HCT : Hid _ := CT
          have HCK1 : Hid _ := CK1
          clear CT CK1 ht hp etk hrl hrw hl2
          go_wp2_with (first
            | (go_at_call 43; refine Calls.mono HCK1.out ?_; rintro e w2 ⟨rfl, h1, h2⟩; have H2 : Hid (LS q r w (r2.drop 5) (.slice a fs.length cap) fs w2) := HX.out.on h2 h1; clear h1 h2)
            | (go_at_call 65; refine (HCT.out _ H2.out.up H2.out.rb).mono ?_; rintro e w3 ⟨h1, rfl⟩; have H3 : Hid (Up r w w3) := H2.out.up.trans h1; clear h1))
          refine ⟨rfl, ?_⟩
          unfold RwsP
          rw [HR.out]
          exact ⟨rfl, H3.out⟩
        | some x =>
          obtain ⟨ts, r3⟩ := x
          have HR : Hid (rowsL l = (rowsL r3).map (fun x => (lvl fs ++ [(1, ts)] ++ x.1, x.2)) ∧ r3.length < (r2.drop 5).length ∧ (r2.drop 5).length + 5 ≤ r2.length) := by
            refine ⟨?_, (toksL_bck ht).2.2.2, hl2⟩
            rw [hrw, hrl, ht]
            simp only
            cases rowsL r3 with
            | none => rfl
            | some y => simp
          have hts : ts.length ≤ 4096 := by
            have := congrArg List.length (toksL_bck ht).1
            have := WL_len ts (toksL_bck ht).2.2.1
            rw [List.length_append] at *
            have := HLE.out
            omega
          simp only [ht] at CT
          have HCT : Hid _ := CT
          have HCK1 : Hid _ := CK1
          have HTS : Hid (ts.length ≤ 4096) := hts
          clear CT CK1 ht hp etk hrl hrw hl2 hts
          go_upto_region 6 with (first
            | (go_at_call 43; refine Calls.mono HCK1.out ?_; rintro e w2 ⟨rfl, h1, h2⟩; have H2 : Hid (LS q r w (r2.drop 5) (.slice a fs.length cap) fs w2) := HX.out.on h2 h1; clear h1 h2 hd1))
          have HAP : Hid (∀ y z u, LS q r w r3 (.slice a fs.length cap) fs y → z.heap.size ≤ y.heap.size → y.ownsRow z.heap.size 3 1 u ts.length (ts.map (Value.int .i64)) → (LS q r w (r2.drop 5) (.slice a fs.length cap) fs z) → ∀ ty, ∃ v' w', (Builtin.append_ #[24, 24] ty #[.slice a fs.length cap, .slice (some ⟨y.heap.size, 0, none⟩) 1 1]).run Tryz.prog (y.alloc (.cells #[.int .i64 1, u] 43)) = .ok v' w' ∧ LS q r w r3 v' (fs ++ [(1, u, ts)]) w') := fun y z u h1 hsz h2 h3 ty => by
            have hal : Below y.heap.size y (y.alloc (.cells #[.int .i64 1, u] 43)) := (Below.refl _ _).alloc (Nat.le_refl _) _
            have hft := h3.new hsz (own_ft h2 rfl (by have := HTS.out; omega))
            have hft2 : FtN (Fq q (.slice a fs.length cap) (y.alloc (.cells #[.int .i64 1, u] 43))) (y.alloc (.cells #[.int .i64 1, u] 43)) u ts := (hft.keep (fun b hb => hal.block b hb.2.1)).mono (fun b hb => ⟨hb.1, Nat.lt_of_lt_of_le hb.2.1 hal.size, hb.2.2⟩)
            exact (h1.on (Up.of hal) (h1.rb.below hal)).app (by have := HLE.out; omega) hft2 (own_dn (h2.alloc _) h3.size) (fun g hg hm => by obtain ⟨f, hf, hfg⟩ := List.mem_filterMap.1 hm; have := ((h3.ow f hf).lt g hfg).2; have := (h2.lt g hg).1; omega) (heap_alloc_new _ _) ty
          go_wp2_with (first
            | (go_at_call 65; refine (HCT.out _ H2.out.up H2.out.rb).mono ?_; rintro e w3 ⟨h1, u, rfl, h2, h3⟩; obtain ⟨ua, uc, rfl⟩ := own_slice' h2; have H3 : Hid (LS q r w r3 (.slice a fs.length cap) fs w3 ∧ w2.heap.size ≤ w3.heap.size ∧ w3.ownsRow w2.heap.size 3 1 (.slice ua ts.length uc) ts.length (ts.map (Value.int .i64))) := ⟨H2.out.on h1 h3, h1.size, h2⟩; clear h1 h2 h3)
            | (at_builtin; go_loud (refine wpList_app _ rfl (.tmp 21) (.tmp 25) 24 24 rfl _ _ rfl rfl (HAP.out w3 w2 _ H3.out.1 H3.out.2.1 H3.out.2.2 H2.out) ?_; rintro v' w4 h1; have H4 : Hid (LS q r w r3 v' (fs ++ [(1, .slice ua ts.length uc, ts)]) w4) := h1; clear h1)))
          obtain ⟨a', cap', rfl⟩ := own_slice' H4.out.own
          refine ⟨⟨_, r3, H4.out, ?_, ?_⟩, ?_⟩
          · rw [lvl_snoc]; exact HR.out.1
          · have := HR.out.2; have := HLE.out; rw [List.length_append]; simp only [List.length_cons, List.length_nil]; omega
          · have := HLE.out; show 5000 - (fs ++ [_]).length < 5000 - fs.length; rw [List.length_append]; simp only [List.length_cons, List.length_nil]; omega
      | false =>
        have etk : tke hB r2 = r2 := by unfold tke; rw [hp]; rfl
        rw [hp, etk] at CK1
        have HCK1 : Hid _ := CK1
        have HR : Hid (rowsL l = some (lvl fs, r2)) := by
          show rowsL l = _
          rw [hrw, rowsL_no hp0 hp]
          simp
        clear CK1 hp etk hrw hp0
        go_wp2_with (first
          | (go_at_call 43; refine Calls.mono HCK1.out ?_; rintro e w2 ⟨rfl, h1, h2⟩; have H2 : Hid (LS q r w r2 (.slice a fs.length cap) fs w2) := HX.out.on h2 h1; clear h1 h2))
        go_ret
        unfold RwsP
        rw [HR.out]
        exact ⟨_, fs, rfl, rfl, by rw [HL.out.2]; exact H2.out⟩
end Go.Proofs.YtpfidohkohldaaaGreatDoor
/- a drawn region that reads, calls and makes memory: its reads are taken first by the quiet walk's own step (go_hq i), what writes comes up alone (go_hr i); of no dump -/
namespace Go.Pin
open Go.RowKit
def plainB : Op → Bool
  | .move _ | .assign _ | .pick _ _ _ | .build _ _ | .load _ _ | .binOp _ _ _ _ _ | .unOp _ _ _ | .convert _ _ _ | .slice _ _ _ _ _ | .fieldAddr _ _ _ | .field _ _ _ | .indexAddr _ _ _ | .index _ _ _ | .extract _ _ => true
  | .call { callee := .builtin .len, .. } => true
  | _ => false
theorem ok_of_then {α : Type} {r : Result α} {g : α → Value} {w' : World} {n : Next} (h : r.andThen (fun a w' => Result.ok (Next.value (g a)) w') = .ok n w') : ∃ v, n = .value v := by
  cases r with
  | ok x w1 => simp [Result.andThen] at h; exact ⟨g x, h.1.symm⟩
  | halt x w1 => simp [Result.andThen] at h
theorem then_then {α β γ : Type} (r : Result α) (f : α → World → Result β) (g : β → World → Result γ) : (r.andThen f).andThen g = r.andThen (fun a w => (f a w).andThen g) := by
  cases r <;> rfl
theorem plain_ok {P : Program} {ρ : Operand → Value} {o : Oper} {w w' : World} {n : Next} (hp : plainB o.op = true) (h : (execOp ρ o).run P w = .ok n w') : ∃ v, n = .value v := by
  obtain ⟨dst, op, ty, pos, after, guard⟩ := o
  simp only at hp
  cases op
  all_goals first
    | (exfalso; simp [plainB] at hp; done)
    | (simp only [execOp, Sem.run_bind, Sem.run_pure] at h; exact ok_of_then (g := fun x => x) h)
    | (simp only [execOp, Sem.run_pure] at h; injection h with h1 h2; exact ⟨_, h1.symm⟩)
    | skip
  case pick =>
    simp only [execOp, Sem.run_bind, Sem.run_pure] at h
    exact ok_of_then (g := fun b => if b = true then ρ _ else ρ _) h
  case call c =>
    obtain ⟨callee, args, argTypes⟩ := c
    cases callee with
    | builtin b =>
      cases b
      all_goals first
        | (exfalso; simp [plainB] at hp; done)
        | skip
      simp only [execOp, resolve, invoke, builtin, Sem.run_bind, Sem.run_pure, Result.andThen_ok] at h
      exact ok_of_then (g := fun x => x) h
    | _ => exfalso; simp [plainB] at hp
section
variable {P : Program} {ops : Array Oper} {Q : Exit → Act → World → Prop} {S : World → Prop} {fuel : Nat} {listed : Array Bool} {a : Act} {w : World}
theorem wp_region_hcls (S : World → Prop) (n : Nat) {id : Nat} (hn : ops.size = n) (hm : P.follows .mixedOrders = true) (hC : S w.drew)
    (h : ∀ (X : Type) (f : X → World), Nonempty X → (∀ x, S (f x)) → Hid (∀ Y, S Y → ∃ x, Y = f x) → wpAnyH P .any ops Q S n (Array.replicate n false) a w.drew) : (Code.region id ops true).wp P Q a w :=
  wp_region_held_drew hm hC (fun _ => by rw [hn]; exact h {w // S w} Subtype.val ⟨⟨_, hC⟩⟩ (fun x => x.2) (fun Y hY => ⟨⟨Y, hY⟩, rfl⟩))
theorem takeQ {X : Type} {f : X → World} (i : Nat) {o : Oper} (hi : ops[i]? = some o) (hs : Region.noSelect ops = true) (hf : Region.free .any ops listed i = true) (hr : (Region.ready .any ops listed).contains i = true)
    (hp : plainB o.op = true) (hQ : ∀ c (a : Act) d v w, Q (.panic c) (a.put d v) w → Q (.panic c) a w) (hS : S w) (hC : ∀ Y, S Y → ∃ x, Y = f x) (hw : Region.wanted o (yielded ops a.tmps) = true)
    (h : ∀ K : Act → Prop, (∀ a', wpAnyH P .any ops Q S fuel (listed.setIfInBounds i true) a' w → K a') → o.quiet P a (fun w' => ∃ x, w' = f x) K) : wpAnyH P .any ops Q S (fuel + 1) listed a w := by
  obtain ⟨v, h1, h2⟩ := h _ (fun _ h => h)
  refine wpAnyH_take hi hs hf hr (fun _ _ _ h => hQ _ _ _ _ _ h) (.inl ⟨hw, fun w hw => ?_⟩) hS h2
  have := h1 w (hC w hw)
  unfold Oper.quietAt at this
  cases e : (execOp a.eval o).run P w with
  | ok n w' =>
    obtain ⟨u, rfl⟩ := plain_ok hp e
    rw [e] at this
    obtain ⟨rfl, rfl⟩ := this
    rfl
  | halt x w' => rw [e] at this; exact this.elim
theorem skipQ (i : Nat) {o : Oper} (hi : ops[i]? = some o) (hs : Region.noSelect ops = true) (hf : Region.free .any ops listed i = true) (hr : (Region.ready .any ops listed).contains i = true)
    (hQ : ∀ c (a : Act) d v w, Q (.panic c) (a.put d v) w → Q (.panic c) a w) (hS : S w) (hw : Region.wanted o (yielded ops a.tmps) = false)
    (h : wpAnyH P .any ops Q S fuel (listed.setIfInBounds i true) (a.put o.dst undef) w) : wpAnyH P .any ops Q S (fuel + 1) listed a w :=
  wpAnyH_take hi hs hf hr (fun _ _ _ h => hQ _ _ _ _ _ h) (.inr ⟨hw, rfl⟩) hS h
/-- one operation alone may come up -/
theorem readyQ (i : Nat) {o : Oper} (hi : ops[i]? = some o) (hr : Region.ready .any ops listed = [i]) (hw : Region.wanted o (yielded ops a.tmps) = true)
    (h : ∀ K : Act → World → Prop, (∀ a' w', S w' → wpAnyH P .any ops Q S fuel (listed.setIfInBounds i true) a' w' → K a' w') → Oper.wp P o a w K Q) : wpAnyH P .any ops Q S (fuel + 1) listed a w := by
  refine wpAnyH_all hr (by simp) (fun j hj => ?_)
  obtain rfl : j = i := by simpa using hj
  refine wpOp_step hi (fun K hK => ?_)
  rw [if_pos hw]
  exact h K (fun a' w' h1 h2 => hK a' w' ⟨h1, h2⟩)
theorem listed_as {l l' : Array Bool} (hl : l = l') (h : wpAnyH P .any ops Q S fuel l' a w) : wpAnyH P .any ops Q S fuel l a w := by rw [hl]; exact h
end
end Go.Pin
