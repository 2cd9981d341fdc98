import Derived.Test.YtfkbgodfcnmepabDoorDbK
import Derived.Deep.QuietTactic
import Derived.BigQuiet
namespace Go.Proofs.YtfkbgodfcnmepabDoor
set_option linter.unusedSimpArgs false
set_option linter.unusedVariables false
open Go.ChangeShapes Go.WideShapes Go.ChangeAt Go.RowKit Go.Pin Go.Str Go.Dig
/-- boxes of which no two are one -/
def EN (B : Nat) (w : World) (rv : Value) (l : List (Int × Int)) (bs : List (Nat × Obj)) (W : World) : Prop := Ev B w rv l bs W ∧ (bs.map Prod.fst).Nodup
section
variable {B : Nat} {w : World} {rv rv' : Value} {l l' : List (Int × Int)} {A C lb lb' bs : List (Nat × Obj)} {W W' : World} {g : Nat} {x x' : Obj}
theorem EN.below (h : EN B w rv l bs W) (hb : Below W.heap.size W W') : EN B w rv l bs W' := ⟨h.1.below hb, h.2⟩
theorem EN.at (h : EN B w rv l (A ++ (g, x) :: C) W) : Ev B w rv l ((g, x) :: (A ++ C)) W ∧ ∀ p ∈ A ++ C, p.1 ≠ g := by
  refine ⟨h.1.sub (fun p hp => List.perm_middle.mem_iff.2 hp), fun p hp e => ?_⟩
  have h2 := (List.Perm.nodup_iff (List.Perm.map Prod.fst (List.perm_middle (a := (g, x)) (l₁ := A) (l₂ := C)))).1 h.2
  rw [List.map_cons] at h2
  exact (List.nodup_cons.1 h2).1 (List.mem_map.2 ⟨p, hp, e⟩)
theorem EN.back (h : EN B w rv l (A ++ (g, x) :: C) W) (h' : Ev B w rv' l' ((g, x') :: (A ++ C)) W') : EN B w rv' l' (A ++ (g, x') :: C) W' := by
  refine ⟨h'.sub (fun p hp => List.perm_middle.mem_iff.1 hp), ?_⟩
  have := h.2
  rw [List.map_append, List.map_cons] at this ⊢
  exact this
theorem EN.list (h : EN B w rv l (A ++ (lb ++ C)) W) : Ev B w rv l (lb ++ (A ++ C)) W ∧ ∀ p ∈ lb, ∀ q ∈ A ++ C, q.1 ≠ p.1 := by
  have hp : (A ++ (lb ++ C)).Perm (lb ++ (A ++ C)) := by
    rw [← List.append_assoc, ← List.append_assoc]
    exact List.Perm.append_right C List.perm_append_comm
  refine ⟨h.1.sub (fun p hm => hp.mem_iff.2 hm), fun p hm q hq e => ?_⟩
  have h2 := (List.Perm.nodup_iff (hp.map Prod.fst)).1 h.2
  rw [List.map_append] at h2
  exact (List.nodup_append.1 h2).2.2 p.1 (List.mem_map.2 ⟨p, hm, rfl⟩) q.1 (List.mem_map.2 ⟨q, hq, rfl⟩) e.symm
theorem Lst.nd {T : TypeId} {sz : Nat} {v : Value} {n : Nat} {xs : List Value} (h : Lst T sz v n xs lb) : (lb.map Prod.fst).Nodup := by
  rcases h.2 with ⟨_, _, e⟩ | ⟨g, cap, cur, _, e, _⟩
  · rw [e]; exact List.nodup_nil
  · rw [e]; simp
theorem EN.listBack (h : EN B w rv l (A ++ (lb ++ C)) W) (hn : (lb'.map Prod.fst).Nodup) (h' : Ev B w rv' l' (lb' ++ (A ++ C)) W') (hd : ∀ p ∈ lb', ∀ q ∈ A ++ C, q.1 ≠ p.1) : EN B w rv' l' (A ++ (lb' ++ C)) W' := by
  have hp : ∀ lb : List (Nat × Obj), (A ++ (lb ++ C)).Perm (lb ++ (A ++ C)) := fun lb => by
    rw [← List.append_assoc, ← List.append_assoc]
    exact List.Perm.append_right C List.perm_append_comm
  refine ⟨h'.sub (fun p hm => (hp lb').mem_iff.1 hm), (List.Perm.nodup_iff ((hp lb').map Prod.fst)).2 ?_⟩
  have h2 := (List.Perm.nodup_iff ((hp lb).map Prod.fst)).1 h.2
  rw [List.map_append] at h2 ⊢
  refine List.nodup_append.2 ⟨hn, (List.nodup_append.1 h2).2.1, fun a ha b hb e => ?_⟩
  obtain ⟨p, hp, rfl⟩ := List.mem_map.1 ha
  obtain ⟨q, hq, rfl⟩ := List.mem_map.1 hb
  exact hd p hp q hq e.symm
/-- another box in a box's place -/
theorem EN.swapBox (h : EN B w rv l (A ++ (g, x) :: C) W) (hb : Below W.heap.size W W') {p : Nat} {y : Obj} (hp : W.heap.size ≤ p) (hy : W'.heap[p]? = some y) : EN B w rv l (A ++ (p, y) :: C) W' := by
  have hf := (h.1.fresh hb hp hy)
  refine ⟨hf.sub (fun r hr => ?_), ?_⟩
  · rcases List.mem_append.1 hr with hr | hr
    · exact List.mem_cons_of_mem _ (List.mem_append_left _ hr)
    · rcases List.mem_cons.1 hr with rfl | hr
      · exact List.mem_cons_self ..
      · exact List.mem_cons_of_mem _ (List.mem_append_right _ (List.mem_cons_of_mem _ hr))
  · have h2 := (List.Perm.nodup_iff (List.Perm.map Prod.fst (List.perm_middle (a := (g, x)) (l₁ := A) (l₂ := C)))).1 h.2
    refine (List.Perm.nodup_iff (List.Perm.map Prod.fst (List.perm_middle (a := (p, y)) (l₁ := A) (l₂ := C)))).2 ?_
    rw [List.map_cons] at h2 ⊢
    refine List.nodup_cons.2 ⟨fun hm => ?_, (List.nodup_cons.1 h2).2⟩
    obtain ⟨r, hr, e⟩ := List.mem_map.1 hm
    have : r ∈ A ++ (g, x) :: C := List.perm_middle.mem_iff.2 (List.mem_cons_of_mem _ hr)
    have := heap_lt (h.1.at' r this)
    omega
end
theorem row_range {W : World} {g : Nat} {L : List Int} {k : IntKind} {T : TypeId} {fr : Nat × Nat} (h : W.heap[g]? = some (.cells (VI k L) T fr)) : W.rangeAt g 0 (L.map (Value.int k)) := fun j v hv => by
  rw [cell_of_row W _ _ _ _ _ h, Nat.zero_add]
  simpa [VI] using hv
theorem drewN_below {q : Nat} {W w : World} (h : Below q W w) (n : Nat) : Below q W (w.drewN n) := ⟨h.os, h.tape, h.output, h.size, h.block⟩
theorem Src.rb {W : World} {bx : List (Nat × Obj)} {v : Value} {D : List Int} (h : Src W.heap.size W bx v D) (hb : ∀ p ∈ bx, W.heap[p.1]? = some p.2) : RdB W v D := by
  obtain ⟨a, c, e, h1, h2⟩ := h
  refine ⟨a, c, e, h1, h2.imp id ?_⟩
  rintro ⟨b, o, h3, h4⟩
  exact ⟨b, o, h3, h4 W (Below.refl _ _) hb⟩
theorem Ev.rb {B : Nat} {w : World} {rv : Value} {l : List (Int × Int)} {bx : List (Nat × Obj)} {Y : World} (he : Ev B w rv l bx Y) {v : Value} {D : List Int} (h : Src B w bx v D) : RdB Y v D := (h.at_ he []).rb (fun p hp => nomatch hp)
theorem row_rd {W : World} {g : Nat} {L : List Int} {T : TypeId} (h : W.heap[g]? = some (.cells (VI .u8 L) T)) {n cap : Nat} (hn : L.length = n) (hc : n ≤ cap) : RdB W (.slice (some ⟨g, 0, none⟩) n cap) L := ⟨_, cap, by rw [hn], by omega, .inr ⟨g, 0, rfl, row_range h⟩⟩
set_option maxRecDepth 100000 in
set_option maxHeartbeats 4000000 in
theorem same_any (va vb : Value) (D : List Int) (hD : D.length ≤ 1000000) (w : World) (ha : RdB w va D) (hb : RdB w vb D) :
    Calls Tryd.prog 10 #[va, vb] w fun e w' => e = .returned (.bool true) ∧ Below w.heap.size w w' := by
  obtain ⟨q, hq⟩ : ∃ q, w.heap.size = q := ⟨_, rfl⟩
  obtain ⟨a, ca, rfl, _, _⟩ := id ha
  obtain ⟨b, cb, rfl, _, _⟩ := id hb
  obtain ⟨n, hn⟩ : ∃ n, D.length = n := ⟨_, rfl⟩
  rw [hn] at ha hb hD ⊢
  obtain ⟨_, _, ha⟩ := rdb_at hq ha
  obtain ⟨_, _, hb⟩ := rdb_at hq hb
  have HA : Hid _ := ha
  have HB : Hid _ := hb
  rw [hq]
  have HQ : Hid (w.heap.size = q) := hq
  clear ha hb hn hq
  go_enter Tryd.func10, Tryd.ntmps10
  go_wp2
  go_loopw [5] (fun v w' => ∃ i : Nat, i ≤ n ∧ v = .int .i64 i ∧ Below q w w') (fun v _ => n - (intOf v).toNat)
  case atStart => exact ⟨0, by omega, rfl, Below.refl _ _⟩
  case round =>
    obtain ⟨i, hi, rfl, hp⟩ := hrel
    by_cases hlt : i < n
    · obtain ⟨g, o, rfl, _, c1⟩ := HA.out i hlt
      obtain ⟨g', o', rfl, _, c2⟩ := HB.out i hlt
      have c1 := c1 wr hp
      have c2 := c2 wr hp
      have b1 : (i : Int) < (n : Int) := by omega
      generalize D.getD i 0 = z at *
      have HP : Hid (Below q w wr) := hp
      clear HA HB hp HQ
      go_wp2
      go_quiet (fail)
      go_wp2
      go_roundw
      case rel => exact ⟨i + 1, by omega, by go_num, drewN_below HP.out _⟩
      case measure => simp [intOf]; omega
    · have b1 : ¬ (i : Int) < (n : Int) := by omega
      have HP : Hid (Below q w wr) := hp
      clear HA HB hp
      go_wp2
      go_ret
      exact ⟨rfl, HP.out⟩
end Go.Proofs.YtfkbgodfcnmepabDoor
