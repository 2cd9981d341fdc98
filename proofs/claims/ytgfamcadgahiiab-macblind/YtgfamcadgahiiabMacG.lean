import Derived.Test.YtgfamcadgahiiabMacF
namespace Go.Prm
open Go
/-- what the pieces' Writes log -/
def plog : Nat → Nat → List Nat → Lg
  | _, _, [] => []
  | h, i, n :: r => ifl true :: (2, (i : Int)) :: (wlog h n ++ plog ((h + n) % 16) (i + 1) r)
theorem plog_snoc : ∀ (ns : List Nat) (h i n : Nat), h < 16 → plog h i (ns ++ [n]) = plog h i ns ++ (ifl true :: (2, ((i + ns.length : Nat) : Int)) :: wlog ((h + ns.sum) % 16) n)
  | [], h, i, n, hh => by simp [plog, Nat.mod_eq_of_lt hh]
  | m :: r, h, i, n, hh => by
    have := plog_snoc r ((h + m) % 16) (i + 1) n (by omega)
    rw [List.cons_append, plog, this, plog]
    have e1 : i + 1 + r.length = i + (m :: r).length := by simp; omega
    have e2 : ((h + m) % 16 + r.sum) % 16 = (h + (m :: r).sum) % 16 := by simp; omega
    rw [e1, e2]
    simp
theorem plog_len : ∀ (l : List Nat) (h i : Nat), h < 16 → (plog h i l).length ≤ 22 * l.length + l.sum
  | [], h, i, _ => by simp [plog]
  | n :: r, h, i, hh => by
    have h1 := wlog_len h n hh
    have h2 := plog_len r ((h + n) % 16) (i + 1) (by omega)
    simp [plog]
    omega
/-- what Of logs -/
def olg (ns : List Nat) : Lg := plog 0 0 ns ++ (ifl false :: tlog (ns.sum % 16))
theorem olg_len (ns : List Nat) : (olg ns).length ≤ 5 + 22 * ns.length + ns.sum := by
  have := plog_len ns 0 0 (by omega)
  have := tlog_len (ns.sum % 16)
  simp [olg]
  omega
theorem flat_len (Ds : List (List Int)) : Ds.flatten.length = (Ds.map List.length).sum := by rw [List.length_flatten]
theorem fin_tag (key : List Int) (D : List Int) : (if (rst D).length = 0 then acc (rOf key) z5 D else wth (rOf key) (acc (rOf key) z5 D) (blkOf (rst D))) = facc (rOf key) z5 D := (facc_eq _ _ D z5 (Nat.le_refl _)).symm
end Go.Prm
namespace Go.Proofs.Ytgfamcadgahiiab
set_option linter.unusedSimpArgs false
set_option linter.unusedVariables false
open Go.ChangeShapes Go.WideShapes Go.ChangeAt Go.RowKit Go.Pin Go.Prm
theorem rst_app (D E : List Int) : rst (rst D ++ E) = rst (D ++ E) := ((acc_app z5 D.length D z5 E (Nat.le_refl _)).2).symm
theorem acc_app' (r s D E : List Int) : acc r (acc r s D) (rst D ++ E) = acc r s (D ++ E) := ((acc_app r D.length D s E (Nat.le_refl _)).1).symm
/-- a piece, to a Mac of a key -/
theorem mwrite_any {B : Nat} {w : World} {rv : Value} {l : List (Int × Int)} {bx : List (Nat × Obj)} {W : World} {g : Nat} {key D0 D : List Int} {v : Value} (h : Ev B w rv l ((g, mst rv key D0) :: bx) W) (hne : ∀ p ∈ bx, p.1 ≠ g) (hl : rv ≠ .pointer none → l.length + D.length ≤ 700000) (hk : Key32 key) (hD0 : Byt D0) (hD : Byt D) (hS : Src B w bx v D) :
    Calls Try.prog 15 #[.pointer (some ⟨g, 0, none⟩), v] W fun e w' => e = .returned (.tuple #[]) ∧ Ev B w rv (l ++ wlog (D0.length % 16) D.length) ((g, mst rv key (D0 ++ D)) :: bx) w' := by
  obtain ⟨a, cap, rfl, _⟩ := id hS
  refine (write_any (H := rst D0) (D := D) h hne hl (by rw [rst_len]; omega) (mst_ms hk hD0) (rst_byt hD0) hD hS).mono ?_
  rintro e w' ⟨rfl, h2⟩
  refine ⟨rfl, ?_⟩
  rw [rst_len, acc_app', rst_app] at h2
  exact h2
/-- its Tag -/
theorem mtag_any {B : Nat} {w : World} {rv : Value} {l : List (Int × Int)} {bx : List (Nat × Obj)} {W : World} {g : Nat} {key D : List Int} (h : Ev B w rv l ((g, mst rv key D) :: bx) W) (hl : rv ≠ .pointer none → l.length ≤ 800000) (hk : Key32 key) (hD : Byt D) :
    Calls Try.prog 17 #[.pointer (some ⟨g, 0, none⟩)] W fun e w' => e = .returned (.agg (VI .u8 (mtag key D))) ∧ Ev B w rv (l ++ tlog (D.length % 16)) ((g, mst rv key D) :: bx) w' := by
  refine (tag_any (D := rst D) h hl (by rw [rst_len]; omega) (mst_ms hk hD) (rst_byt hD)).mono ?_
  rintro e w' ⟨rfl, h2⟩
  unfold fin
  rw [fin_tag]
  exact ⟨rfl, h2.cast (by rw [rst_len])⟩
/-- pieces that are read -/
def PSrc (B : Nat) (w : World) (bx : List (Nat × Obj)) (a : Option Addr) (n : Nat) (Ds : List (List Int)) : Prop :=
  (Ds.length = n ∧ n ≤ maxLen) ∧ ∀ j, j < n → ∃ b o u, a = some ⟨b, o, none⟩ ∧ (∀ W, Below B w W → (∀ q ∈ bx, W.heap[q.1]? = some q.2) → W.cell? ⟨b, o + j, none⟩ = some u) ∧ Src B w bx u (Ds.getD j [])
theorem PSrc.sub {B : Nat} {w : World} {bx by' : List (Nat × Obj)} {a : Option Addr} {n : Nat} {Ds : List (List Int)} (h : PSrc B w bx a n Ds) (hs : ∀ p ∈ bx, p ∈ by') : PSrc B w by' a n Ds := by
  refine ⟨h.1, fun j hj => ?_⟩
  obtain ⟨b, o, u, h1, h2, h3⟩ := h.2 j hj
  exact ⟨b, o, u, h1, fun W hW hq => h2 W hW (fun q hm => hq q (hs q hm)), h3.sub hs⟩
theorem take_snocL (Ds : List (List Int)) (i : Nat) (h : i < Ds.length) : Ds.take (i + 1) = Ds.take i ++ [Ds.getD i []] := by
  rw [List.take_add_one, List.getD_eq_getElem?_getD, List.getElem?_eq_getElem h]
  rfl
def BytL (Ds : List (List Int)) : Prop := ∀ D ∈ Ds, Byt D
theorem BytL.at {Ds : List (List Int)} (h : BytL Ds) (i : Nat) : Byt (Ds.getD i []) := by
  rw [List.getD_eq_getElem?_getD]
  cases he : Ds[i]? with
  | none => intro x hx; cases hx
  | some D => exact h D (List.mem_of_getElem? he)
theorem BytL.flat {Ds : List (List Int)} (h : BytL Ds) : Byt Ds.flatten := fun x hx => by
  obtain ⟨D, hD, hx⟩ := List.mem_flatten.1 hx
  exact h D hD x hx
theorem BytL.take {Ds : List (List Int)} (h : BytL Ds) (i : Nat) : BytL (Ds.take i) := fun D hD => h D (List.mem_of_mem_take hD)
theorem take_sum : ∀ (Ds : List (List Int)) (i : Nat), (Ds.take i).flatten.length + (Ds.getD i []).length ≤ Ds.flatten.length
  | [], i => by simp
  | D :: r, 0 => by simp
  | D :: r, i + 1 => by
    have := take_sum r i
    simp at this ⊢
    omega
theorem wrapS {i n : Nat} (h : i < n) (hn : n ≤ maxLen) : wrap64 ((i : Int) + 1) = (i : Int) + 1 := IntWalk.wrap64_in _ ⟨by omega, by unfold maxLen at hn; omega⟩
theorem measS {i n : Nat} (h : i < n) (hn : n ≤ maxLen) : n - (intOf (.int .i64 (wrap64 ((i : Int) + 1)))).toNat < n - (intOf (.int .i64 (i : Int))).toNat := by
  rw [wrapS h hn]
  simp only [intOf]
  omega
theorem infoK : (Try.prog.info? 23).map (·.size) = some 32 := by kernel_rfl
theorem list_un : Try.prog.underlying 24 = some (.slice 32) := Try.underlying24
set_option maxRecDepth 100000 in
set_option maxHeartbeats 4000000 in
theorem of_any {B : Nat} {w : World} {rv : Value} {l : List (Int × Int)} {bx : List (Nat × Obj)} {W : World} (h : Ev B w rv l bx W) {key : List Int} (hk : Key32 key) {a : Option Addr} {n cap : Nat} {Ds : List (List Int)} (hP : PSrc B w bx a n Ds) (hD : BytL Ds) (hl : rv ≠ .pointer none → l.length + 25 * n + Ds.flatten.length ≤ 600000) :
    Calls Try.prog 6 #[rv, .agg (VI .u8 key), .slice a n cap] W fun e w' => e = .returned (.agg (VI .u8 (mtag key Ds.flatten))) ∧ Ev B w rv (l ++ olg (Ds.map List.length)) bx w' := by
  obtain ⟨q, hq⟩ : ∃ q, W.heap.size = q := ⟨_, rfl⟩
  have e3 := (h.new (.cells (VI .u8 key) 23)).new (.cells (VI .u8 (List.replicate 16 0)) 27)
  simp only [size_alloc, hq] at e3
  obtain ⟨V0, hV0⟩ : ∃ V, W.alloc (.cells (VI .u8 key) 23) = V := ⟨_, rfl⟩
  obtain ⟨W0, hW0⟩ : ∃ V, V0.alloc (.cells (VI .u8 (List.replicate 16 0)) 27) = V := ⟨_, rfl⟩
  have hsV : V0.heap.size = q + 1 := by rw [← hV0, size_alloc, hq]
  rw [hV0, hW0] at e3
  rw [zero16_lit] at hW0
  have hbxq : ∀ p ∈ bx, p.1 < q := fun p hp => by rw [← hq]; exact heap_lt (h.at' p hp)
  have HLD : Hid (W0.rangeAt q 0 (key.map (Value.int .u8))) := row_range (e3.row mem1)
  have CN : Hid (Calls Try.prog 13 #[rv, .agg (VI .u8 key)] W0 fun e w' => ∃ g, e = .returned (.pointer (some ⟨g, 0, none⟩)) ∧ W0.heap.size ≤ g ∧ Ev B w rv l ((g, mst rv key []) :: (q + 1, .cells (VI .u8 (List.replicate 16 0)) 27) :: (q, .cells (VI .u8 key) 23) :: bx) w') := mnew_any e3 hk
  have hsW : q + 1 < W0.heap.size := e3.lt mem0
  have HS : Hid (V0.heap.size = q + 1 ∧ q + 1 < W0.heap.size) := ⟨hsV, hsW⟩
  have HL : Hid ((rv ≠ .pointer none → l.length + 25 * n + Ds.flatten.length ≤ 600000) ∧ BytL Ds ∧ Key32 key ∧ (∀ p ∈ bx, p.1 < q) ∧ PSrc B w bx a n Ds) := ⟨hl, hD, hk, hbxq, hP⟩
  have HI : Hid ((Try.prog.info? 23).map (·.size) = some (VI .u8 key).size) := by
    have : (Try.prog.info? 23).map (·.size) = some (VI .u8 key).size := by rw [VI_size, hk.len]; exact infoK
    exact this
  have HI' : Hid ((Try.prog.info? 23).map (·.size) = some key.length) := by
    have : (Try.prog.info? 23).map (·.size) = some key.length := by rw [hk.len]; exact infoK
    exact this
  clear e3 h hk hP hD hl hbxq hsV hsW
  go_enter Try.func6, Try.ntmps6
  go_upto_region 2 with (first | (go_at_call 13; refine Calls.mono CN.out ?_; rintro e W1 ⟨g, rfl, hg, h1⟩; have H1 : Hid _ := h1; have HG : Hid (q + 1 < g) := Nat.lt_of_lt_of_le HS.out.2 hg; clear h1 hg) | (with_reducible refine at_list ?_; first | (refine load_midI rfl 23 (.tmp 4) rfl q 0 rfl .u8 key _ HLD.out Try.underlying23 rfl HI'.out ?_)))
  rw [HS.out.1]
  go_wp2_with fail
  go_loopw [8] (fun v w' => ∃ i : Nat, i ≤ n ∧ v = .int .i64 (i : Int) ∧ Ev B w rv (l ++ plog 0 0 ((Ds.take i).map List.length)) ((g, mst rv key (Ds.take i).flatten) :: (q + 1, .cells (VI .u8 (List.replicate 16 0)) 27) :: (q, .cells (VI .u8 key) 23) :: bx) w') (fun v _ => n - (intOf v).toNat)
  case atStart => exact ⟨0, Nat.zero_le _, rfl, H1.out.cast (by simp [plog])⟩
  case round =>
    obtain ⟨i, hi, rfl, he⟩ := hrel
    have hne : ∀ p ∈ (q + 1, Obj.cells (VI .u8 (List.replicate 16 0)) 27) :: (q, .cells (VI .u8 key) 23) :: bx, p.1 ≠ g := fun p hp => by
      have := HG.out
      rcases List.mem_cons.1 hp with rfl | hp
      · show q + 1 ≠ g; omega
      · rcases List.mem_cons.1 hp with rfl | hp
        · show q ≠ g; omega
        · have := HL.out.2.2.2.1 p hp; omega
    have hpl : (plog 0 0 ((Ds.take i).map List.length)).length ≤ 22 * n + (Ds.take i).flatten.length := by
      have h1 := plog_len ((Ds.take i).map List.length) 0 0 (by omega)
      rw [← flat_len] at h1
      have h2 : ((Ds.take i).map List.length).length ≤ n := by rw [List.length_map, List.length_take]; omega
      omega
    have htl := take_sum Ds i
    have HLN : Hid (rv ≠ .pointer none → (l ++ plog 0 0 ((Ds.take i).map List.length)).length + 10 + (Ds.getD i []).length ≤ 700000) := by
      have : rv ≠ .pointer none → (l ++ plog 0 0 ((Ds.take i).map List.length)).length + 10 + (Ds.getD i []).length ≤ 700000 := fun hr => by
        have := HL.out.1 hr
        rw [List.length_append]
        omega
      exact this
    by_cases hlt : i < n
    · have b1 : (i : Int) < (n : Int) := by omega
      have CI : Hid (Calls Try.prog 14 #[rv, .bool true] wr fun e w' => e = .returned (.bool true) ∧ Ev B w rv (l ++ plog 0 0 ((Ds.take i).map List.length) ++ [ifl true]) ((g, mst rv key (Ds.take i).flatten) :: (q + 1, .cells (VI .u8 (List.replicate 16 0)) 27) :: (q, .cells (VI .u8 key) 23) :: bx) w') := v_if he (fun hr => by have := HLN.out hr; omega) true
      obtain ⟨b, o, u, rfl, hcu, hsu⟩ := HL.out.2.2.2.2.2 i hlt
      have HU : Hid ((∀ W, Below B w W → (∀ q ∈ bx, W.heap[q.1]? = some q.2) → W.cell? ⟨b, o + i, none⟩ = some u) ∧ Src B w bx u (Ds.getD i [])) := ⟨hcu, hsu⟩
      have HN : Hid (i < n ∧ (∀ p ∈ (q + 1, Obj.cells (VI .u8 (List.replicate 16 0)) 27) :: (q, .cells (VI .u8 key) 23) :: bx, p.1 ≠ g)) := ⟨hlt, hne⟩
      have HW1 : Hid (wrap64 ((i : Int) + 1) = (i : Int) + 1) := wrapS hlt HL.out.2.2.2.2.1.2
      clear he hcu hsu hne hpl htl hi
      go_wp2_with (first | (go_at_call 14; refine Calls.mono CI.out ?_; rintro e W2 ⟨rfl, h2⟩; have CA : Hid _ := v_at h2 (fun hr => by have := HLN.out hr; simp at this ⊢; omega) (i : Int); clear h2) | (go_at_call 16; refine Calls.mono CA.out ?_; rintro e W3 ⟨rfl, h3⟩; have c3 := HU.out.1 W3 h3.old (fun q hq => h3.row (memr3 hq)); have CW : Hid _ := mwrite_any h3 HN.out.2 (fun hr => by have := HLN.out hr; simp at this ⊢; omega) HL.out.2.2.1 (HL.out.2.1.take i).flat (HL.out.2.1.at i) (HU.out.2.sub (fun p hp => memr2 hp)); clear h3) | (go_at_call 15; refine Calls.mono CW.out ?_; rintro e W4 ⟨rfl, h4⟩; have H4 : Hid _ := h4; clear h4))
      go_roundw
      case rel =>
        refine ⟨i + 1, HN.out.1, by rw [HW1.out]; exact congrArg (Value.int .i64) (by omega), ?_⟩
        have hsn := take_snocL Ds i (by rw [HL.out.2.2.2.2.1.1]; exact HN.out.1)
        rw [hsn, List.map_append, List.flatten_append, List.map_cons, List.map_nil, plog_snoc _ 0 0 _ (by omega)]
        have e1 : ((Ds.take i).map List.length).length = i := by rw [List.length_map, List.length_take, HL.out.2.2.2.2.1.1]; have := HN.out.1; omega
        have e2 : ((Ds.take i).map List.length).sum = (Ds.take i).flatten.length := (flat_len _).symm
        rw [e1, e2]
        have h4 := H4.out
        simp only [List.append_assoc, List.flatten_cons, List.flatten_nil, List.append_nil, Nat.zero_add, List.cons_append, List.nil_append] at h4 ⊢
        exact h4
      case measure => exact measS HN.out.1 HL.out.2.2.2.2.1.2
    · have b1 : ¬ (i : Int) < (n : Int) := by omega
      have ei : i = n := by omega
      have et : Ds.take i = Ds := List.take_of_length_le (by rw [HL.out.2.2.2.2.1.1]; omega)
      have CI : Hid (Calls Try.prog 14 #[rv, .bool false] wr fun e w' => e = .returned (.bool false) ∧ Ev B w rv (l ++ plog 0 0 ((Ds.take i).map List.length) ++ [ifl false]) ((g, mst rv key (Ds.take i).flatten) :: (q + 1, .cells (VI .u8 (List.replicate 16 0)) 27) :: (q, .cells (VI .u8 key) 23) :: bx) w') := v_if he (fun hr => by have := HLN.out hr; omega) false
      rw [et] at CI HLN
      clear he hpl htl hi hne
      go_wp2_with (first | (go_at_call 14; refine Calls.mono CI.out ?_; rintro e W2 ⟨rfl, h2⟩; have CT : Hid _ := mtag_any h2 (fun hr => by have := HLN.out hr; simp at this ⊢; omega) HL.out.2.2.1 HL.out.2.1.flat; clear h2) | (go_at_call 17; refine Calls.mono CT.out ?_; rintro e W3 ⟨rfl, h3⟩; have H3 : Hid _ := h3; clear h3) | (with_reducible refine at_list ?_; first | (refine hold_store 27 (.tmp 6) (.tmp 29) rfl ?_)))
      have h3 := H3.out.flip
      have ht3 := row_there (h3.row mem0)
      refine store_rowI rfl 27 (.tmp 6) (.tmp 29) rfl (q + 1) .u8 (mtag key Ds.flatten) rfl rfl (by rw [mtag_len]; exact ht3) (by rw [mtag_len]; exact infoT) rfl ?_
      have h4 := h3.storeRow (L' := mtag key Ds.flatten) (fun p hp => by
        have := HG.out
        rcases List.mem_cons.1 hp with rfl | hp
        · show g ≠ q + 1; omega
        · rcases List.mem_cons.1 hp with rfl | hp
          · show q ≠ q + 1; omega
          · have := HL.out.2.2.2.1 p hp; omega) (by rw [mtag_len, List.length_replicate])
      obtain ⟨W5, hW5⟩ : ∃ V, W3.setCells (q + 1) 0 (VI .u8 (mtag key Ds.flatten)).toList = V := ⟨_, rfl⟩
      rw [hW5] at h4 ⊢
      have H5 : Hid (Ev B w rv _ bx W5) := h4.tail.tail.tail
      have HR5 : Hid (W5.heap[q + 1]? = some (.cells (VI .u8 (mtag key Ds.flatten)) 27)) := h4.row mem0
      have HI5 : Hid ((Try.prog.info? 27).map (·.size) = some (VI .u8 (mtag key Ds.flatten)).size) := by
        have : (Try.prog.info? 27).map (·.size) = some (VI .u8 (mtag key Ds.flatten)).size := by rw [VI_size, mtag_len]; exact infoT
        exact this
      clear h4 h3 ht3 hW5
      go_wp2
      refine bodyPost_ret (v := .agg (VI .u8 (mtag key Ds.flatten))) ?_ rfl ⟨rfl, H5.out.cast (by unfold olg; rw [flat_len]; simp)⟩
      exact results_cell_row (P := Try.prog) (fn := Try.f6) (p := 6) (ty := 27) rfl _ _ (q + 1) 27 (VI .u8 (mtag key Ds.flatten)) (0, 0) _ rfl HR5.out Try.underlying27 rfl HI5.out
end Go.Proofs.Ytgfamcadgahiiab
